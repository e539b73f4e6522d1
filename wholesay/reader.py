"""Formulas, sets, machines and rows read from Words."""

from wholesay.errors import TooGreat
from wholesay.kinds import MOST_FACTOR, MOST_NUMBER
from wholesay.lines import need_set
from wholesay.machines import need_machine
from wholesay.parts import BINDERS, LISTS, MOST_DEEP, MOST_MODULUS, MOST_PARTS
from wholesay.words import integer_of

NAMES = ("x0", "x1", "x2", "x3", "x4", "x5", "x6", "x7", "x8", "x9")
LAST_NAME = 9
BEGINNINGS = ("not", "some", "all", "and", "or")


class FormulaReader:
    """Reads a formula; its free names must be below `many`, and `met` is how many parts have begun."""

    def __init__(self, words, many):
        self.words_left = words
        self.many = many
        self.met = 0

    def begin(self, level):
        """The next word, with which a formula must begin; TooGreat if that is too deep, or one too many."""
        word = self.words_left.next_word()
        if word not in BEGINNINGS and integer_of(word, -MOST_FACTOR, MOST_FACTOR) is None:
            self.words_left.refuse()
        self.met += 1
        if level > MOST_DEEP:
            raise TooGreat(MOST_DEEP)
        if self.met > MOST_PARTS:
            raise TooGreat(MOST_PARTS)
        return word

    def read(self, level, bound):
        """The formula that begins with the next word, on that level; `bound` has the names that are bound there."""
        word = self.begin(level)
        if word not in BEGINNINGS:
            return self.read_atom(bound)
        self.words_left.pass_by()
        if word in LISTS:
            return (word, self.read_list(level, bound))
        if word in BINDERS:
            name = self.read_name()
            return (word, name, self.read(level + 1, bound + (name,)))
        return (word, self.read(level + 1, bound))

    def read_list(self, level, bound):
        """The tuple of the formulas of an and or or."""
        self.words_left.want("(")
        found = []
        while self.words_left.next_word() != ")":
            if found:
                self.words_left.want(";")
            found.append(self.read(level + 1, bound))
        self.words_left.pass_by()
        return tuple(found)

    def read_name(self):
        """The name that the next word writes."""
        word = self.words_left.next_word()
        if word not in NAMES:
            self.words_left.refuse()
        self.words_left.pass_by()
        return NAMES.index(word)

    def read_atom(self, bound):
        """The atom that begins with the next word."""
        number = self.words_left.want_integer(-MOST_FACTOR, MOST_FACTOR)
        if self.words_left.next_word() == "divides" and 2 <= number <= MOST_MODULUS:
            self.words_left.pass_by()
            const = self.words_left.want_integer(-MOST_FACTOR, MOST_FACTOR)
            return ("mod", number, (const, self.read_pairs(bound)))
        term = (number, self.read_pairs(bound))
        kind = "eq" if self.words_left.next_word() == "=" else "ge"
        self.words_left.want("=" if kind == "eq" else ">=")
        self.words_left.want("0")
        return (kind, term)

    def read_pairs(self, bound):
        """The pairs of a term, behind its constant."""
        found = []
        last = -1
        # Behind the last name no other one is greater.
        while last < LAST_NAME and self.words_left.next_word() in ("+", "-"):
            sign = 1 if self.words_left.next_word() == "+" else -1
            self.words_left.pass_by()
            factor = self.words_left.want_integer(1, MOST_FACTOR)
            fits = [name for name in range(last + 1, LAST_NAME + 1) if name < self.many or name in bound]
            if self.words_left.next_word() not in [NAMES[name] for name in fits]:
                self.words_left.refuse()
            last = self.read_name()
            found.append((last, sign * factor))
        return tuple(found)


def formula_from(words, many):
    """The formula that the words up to the end write; its free names must be below `many`."""
    formula = FormulaReader(words, many).read(1, ())
    words.want_end()
    return formula


def numbers_from(words, count, most):
    """The tuple of so many numbers, none above `most`."""
    return tuple([words.want_integer(0, most) for _ in range(count)])


def entry_from(words, many):
    """A base or a period."""
    words.want("(")
    found = numbers_from(words, many, MOST_FACTOR)
    words.want(")")
    return found


def line_from(words, many):
    """A line of a set."""
    base = entry_from(words, many)
    periods = []
    while words.next_word() == "+":
        words.pass_by()
        periods.append(entry_from(words, many))
    return (base, tuple(periods))


def set_from(words, many):
    """The set that the words up to the end write; it is checked behind all words."""
    lines = []
    if words.next_word() == "none":
        words.pass_by()
    else:
        lines.append(line_from(words, many))
        while words.next_word() == "or":
            words.pass_by()
            lines.append(line_from(words, many))
    words.want_end()
    return need_set((many, tuple(lines)))


def state_from(words, many):
    """The pair of the row of steps and the end of a state."""
    row = numbers_from(words, 1 << many, MOST_FACTOR)
    end = words.next_word() == "yes"
    words.want("yes" if end else "no")
    return (row, end)


def machine_from(words, many):
    """The machine that the words up to the end write; it is checked behind all words."""
    states = [state_from(words, many)]
    while words.next_word() == ";":
        words.pass_by()
        states.append(state_from(words, many))
    words.want_end()
    return need_machine((many, tuple([row for row, _ in states]), tuple([end for _, end in states])))


def row_from(words, many):
    """The row that the words up to the end write."""
    row = numbers_from(words, many, MOST_NUMBER)
    words.want_end()
    return row
