"""Sheets: lines that give formulas, sets and rows, and sayings about them that are judged over all rows."""

from wholesay.asking import alike, first_taken, is_none, is_within
from wholesay.errors import BadName, BadText, TooGreat
from wholesay.machines import all_rows
from wholesay.reading import machine_of
from wholesay.sayings import SheetReader
from wholesay.truth import is_taken
from wholesay.turning import machine_of_set
from wholesay.words import words_of

MOST_SHEET_LINES = 300


def machines_of(many, given):
    """The dict of the machines of all formulas and sets among what a sheet gives, in their order."""
    found = {}
    for name in given:
        kind, value = given[name]
        if kind == "formula":
            found[name] = machine_of(many, value)
        elif kind == "set":
            found[name] = machine_of_set(value)
    return found


def is_so(machines, given, name, verb, other):
    """Whether what is said is so."""
    machine = machines[name]
    if verb == "has":
        return is_taken(machine[1:], given[other][1])
    if verb == "none":
        return is_none(machine)
    if verb == "every":
        return machine == all_rows(machine[0])
    if verb == "within":
        return is_within(machine, machines[other])
    if verb == "alike":
        return alike(machine, machines[other])
    return first_taken(machine[0], machine[1], machine[2]) == given[other][1]


class Sheet:
    """A sheet: its width `many`, and `rows` with (LINE, TRUTH) for each saying."""

    def __init__(self, text):
        if not isinstance(text, str):
            raise BadText(0, 0)
        pieces = [words_of(line) for line in text.split("\n")]
        if not any([len(words) > 0 for words in pieces]):
            raise BadText(0, 0)
        if len(pieces) > MOST_SHEET_LINES:
            raise TooGreat(MOST_SHEET_LINES)
        reader = SheetReader()
        for line, words in enumerate(pieces):
            if words:
                reader.read(line, words)
        machines = machines_of(reader.many, reader.given) if reader.sayings else {}
        self.many = reader.many
        self._given = reader.given
        self._texts = reader.texts
        self._judged = tuple([
            (line, is_so(machines, reader.given, name, verb, other) == is_said)
            for line, is_said, name, verb, other in reader.sayings])
        self.rows = self._judged

    def all_true(self):
        """Whether each truth is True."""
        return all([truth for _, truth in self._judged])

    def named(self, name):
        """("formula", FORMULA), ("set", SET) or ("row", ROW) of a name that the sheet gives."""
        if not isinstance(name, str) or name not in self._given:
            raise BadName(name)
        return self._given[name]

    def __len__(self):
        return len(self._judged)

    def __iter__(self):
        return iter(self._judged)

    def __eq__(self, other):
        return isinstance(other, Sheet) and self._texts == other._texts

    def __str__(self):
        return "\n".join(self._texts)
