"""Houses: rows that a formula tells, led by deeds that can be taken back."""

from wholesay.asking import first_apart, first_row, is_within
from wholesay.errors import BadDeed, BadRow, NothingBack, SayError, TooGreat, Unlike
from wholesay.formulas import need_wide, put_in, trade_names
from wholesay.kinds import is_between, is_row
from wholesay.machines import all_rows, no_rows
from wholesay.parts import ALWAYS
from wholesay.reading import machine_of
from wholesay.truth import is_taken

MOST_ADDED = 1000
MOST_FOLLOWED = 40


def is_wide(many, value):
    """Whether a value of any kind is a formula of the width."""
    try:
        need_wide(many, value)
    except SayError:
        return False
    return True


def is_deed(many, value):
    """Whether a value of any kind is a deed of houses of the width."""
    if not isinstance(value, tuple) or not value or not isinstance(value[0], str):
        return False
    kind = value[0]
    if kind == "not":
        return len(value) == 1
    if kind in ("and", "or"):
        return len(value) == 2 and is_wide(many, value[1])
    if len(value) < 2 or not is_between(value[1], 0, many - 1):
        return False
    if kind in ("some", "all"):
        return len(value) == 2
    if kind == "add":
        return len(value) == 3 and is_between(value[2], 0, MOST_ADDED)
    return kind == "swap" and len(value) == 3 and is_between(value[2], 0, many - 1) and value[1] != value[2]


def need_deeds(many, deeds):
    """BadDeed of what is no tuple of at most 40 deeds."""
    if not isinstance(deeds, tuple):
        raise BadDeed(0)
    if len(deeds) > MOST_FOLLOWED:
        raise BadDeed(MOST_FOLLOWED)
    for at, deed in enumerate(deeds):
        if not is_deed(many, deed):
            raise BadDeed(at)


def formula_behind(formula, deed):
    """The formula that is held behind a deed."""
    kind = deed[0]
    if kind in ("and", "or"):
        return (kind, (formula, deed[1]))
    if kind == "not":
        return (kind, formula)
    if kind in ("some", "all"):
        return (kind, deed[1], formula)
    if kind == "swap":
        return trade_names(formula, deed[1], deed[2])
    less = (-deed[2], ((deed[1], 1),))
    return ("and", (("ge", less), put_in(formula, deed[1], less)))


def held_behind(many, formula, deed):
    """The pair of the formula that is held behind a deed and its machine; TooGreat."""
    made = formula_behind(formula, deed)
    return (made, machine_of(many, made))


class House:
    """The rows that a formula tells, behind the deeds done so far."""

    def __init__(self, many, formula):
        # What was held ahead of each deed, and what is held now.
        self._held = [(formula, machine_of(many, formula))]
        self.many = many
        self._deeds = []

    def formula(self):
        """The formula that is held, as the deeds have built it."""
        return self._held[-1][0]

    def machine(self):
        """The least machine of the formula that is held."""
        return self._held[-1][1]

    def do(self, deed):
        """Do a deed; what is refused changes nothing."""
        if not is_deed(self.many, deed):
            raise BadDeed(0)
        self.follow((deed,))

    def follow(self, deeds):
        """Do all of some deeds in turn, or none."""
        need_deeds(self.many, deeds)
        held = list(self._held)
        for deed in deeds:
            held.append(held_behind(self.many, held[-1][0], deed))
        self._held = held
        self._deeds = self._deeds + list(deeds)

    def trial(self, deeds):
        """(HOW MANY, MACHINE): how many deeds would be done ahead of a refused one, and the machine behind them."""
        need_deeds(self.many, deeds)
        formula, machine = self._held[-1]
        for at, deed in enumerate(deeds):
            try:
                formula, machine = held_behind(self.many, formula, deed)
            except TooGreat:
                return (at, machine)
        return (len(deeds), machine)

    def undo(self):
        """Take the last deed back."""
        if not self._deeds:
            raise NothingBack()
        self._held = self._held[:-1]
        self._deeds = self._deeds[:-1]

    def has(self, row):
        """Whether the house has the row."""
        if not is_row(row, self.many):
            raise BadRow(row)
        return is_taken(self.machine()[1:], row)

    def first(self):
        """The first row."""
        return first_row(self.machine())

    def is_none(self):
        """Whether the house has no row."""
        return self.machine() == no_rows(self.many)

    def is_every(self):
        """Whether the house has each row."""
        return self.machine() == all_rows(self.many)

    def _need_like(self, other):
        """Unlike of what is no house of this width."""
        if not isinstance(other, House) or other.many != self.many:
            raise Unlike(other)

    def within(self, other):
        """Whether each row is a row of another house."""
        self._need_like(other)
        return is_within(self.machine(), other.machine())

    def apart(self, other):
        """None if another house has the same rows, else the first row that just one of both has."""
        self._need_like(other)
        if self.machine() == other.machine():
            return None
        return first_apart(self.machine(), other.machine())

    def log(self):
        """The tuple of the deeds done and not taken back."""
        return tuple(self._deeds)

    def copy(self):
        """A house that holds the same, with the same log."""
        made = House(self.many, ALWAYS)
        made._held = list(self._held)
        made._deeds = list(self._deeds)
        return made

    def __len__(self):
        return len(self._deeds)

    def __iter__(self):
        return iter(self._deeds)

    def __eq__(self, other):
        return isinstance(other, House) and self.machine() == other.machine()
