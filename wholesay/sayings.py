"""The lines of sheets read: what they give, and what they say."""

from wholesay.reader import formula_from, row_from, set_from
from wholesay.words import DIGITS, Words

CAPITALS = "ABCDEFGHIJKLMNOPQRSTUVWXYZ"
MOST_SIGNS = 8
ROW_VERBS = ("has", "first")
PAIR_VERBS = ("within", "alike")
LONE_VERBS = ("none", "every")


def is_sheet_name(word):
    """Whether a word may be a NAME of a sheet."""
    if not 1 <= len(word) <= MOST_SIGNS or word[0] not in CAPITALS:
        return False
    return all([sign in CAPITALS or sign in DIGITS for sign in word])


class SheetReader:
    """Reads the lines of a sheet in turn.

    `given` tells (KIND, VALUE) of each name, in their order; `sayings` has (LINE, IS SAID, NAME, VERB, OTHER NAME),
    the last one None where there is none; `texts` has the texts of the lines.
    """

    def __init__(self):
        self.many = None
        self.given = {}
        self.sayings = []
        self.texts = []

    def read(self, line, spelled):
        """Read the words of a line."""
        words = Words(spelled, line, 0)
        kind = words.next_word()
        if self.many is None:
            words.want("width")
            self.many = words.want_integer(1, 4)
            words.want_end()
        elif kind in ("say", "deny"):
            words.pass_by()
            self.read_saying(words, kind == "say")
        else:
            self.read_given(words, kind)
        self.texts.append(" ".join(spelled))

    def read_given(self, words, kind):
        """Read a line that gives a formula, a set or a row."""
        if kind not in ("formula", "set", "row"):
            words.refuse()
        words.pass_by()
        name = words.next_word()
        if not is_sheet_name(name) or name in self.given:
            words.refuse()
        words.pass_by()
        words.want("is")
        if kind == "formula":
            self.given[name] = (kind, formula_from(words, self.many))
        elif kind == "set":
            self.given[name] = (kind, set_from(words, self.many))
        else:
            self.given[name] = (kind, row_from(words, self.many))

    def read_named(self, words, kinds):
        """Take the next word, which must be the name of what is of one of these kinds."""
        name = words.next_word()
        if name not in self.given or self.given[name][0] not in kinds:
            words.refuse()
        words.pass_by()
        return name

    def read_saying(self, words, is_said):
        """Read a saying."""
        name = self.read_named(words, ("formula", "set"))
        verb = words.next_word()
        if verb not in ROW_VERBS + PAIR_VERBS + LONE_VERBS:
            words.refuse()
        words.pass_by()
        other = None
        if verb not in LONE_VERBS:
            other = self.read_named(words, ("row",) if verb in ROW_VERBS else ("formula", "set"))
        words.want_end()
        self.sayings.append((words.line, is_said, name, verb, other))
