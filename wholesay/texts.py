"""Texts of formulas, sets, machines and rows: written, and read back."""

from wholesay.errors import BadRow, BadText
from wholesay.formulas import need_formula
from wholesay.kinds import is_row
from wholesay.lines import need_set
from wholesay.machines import need_machine
from wholesay.parts import BINDERS, LISTS
from wholesay.reader import NAMES, formula_from, machine_from, row_from, set_from
from wholesay.terms import need_many
from wholesay.words import Words, words_of


def term_words(term):
    """The list of the words of a term."""
    found = [str(term[0])]
    for name, factor in term[1]:
        found.extend(["+" if factor > 0 else "-", str(abs(factor)), NAMES[name]])
    return found


def formula_words(formula):
    """The list of the words of a formula."""
    kind = formula[0]
    if kind == "mod":
        return [str(formula[1]), "divides"] + term_words(formula[2])
    if kind in ("ge", "eq"):
        return term_words(formula[1]) + [">=" if kind == "ge" else "=", "0"]
    if kind in LISTS:
        found = [kind, "("]
        for at, part in enumerate(formula[1]):
            found.extend(([";"] if at > 0 else []) + formula_words(part))
        return found + [")"]
    ahead = [kind, NAMES[formula[1]]] if kind in BINDERS else [kind]
    return ahead + formula_words(formula[-1])


def formula_text(formula):
    """The text of a formula."""
    return " ".join(formula_words(need_formula(formula)))


def need_text(text):
    """The Words of a text, or BadText of what is no string."""
    if not isinstance(text, str):
        raise BadText(0, 0)
    return Words(words_of(text), 0, 0)


def read_formula(text):
    """The formula of a text."""
    return formula_from(need_text(text), len(NAMES))


def entry_text(row):
    """The text of a base or period."""
    return "( " + numbers_text(row) + " )"


def numbers_text(row):
    """The numbers of a row, each a word."""
    return " ".join([str(number) for number in row])


def set_text(value):
    """The text of a set."""
    need_set(value)
    lines = [" + ".join([entry_text(row) for row in (base,) + periods]) for base, periods in value[1]]
    return " or ".join(lines) if lines else "none"


def read_set(many, text):
    """The set of a text."""
    need_many(many)
    return set_from(need_text(text), many)


def machine_text(machine):
    """The text of a machine."""
    need_machine(machine)
    states = [numbers_text(row) + (" yes" if end else " no") for row, end in zip(machine[1], machine[2])]
    return " ; ".join(states)


def read_machine(many, text):
    """The machine of a text."""
    need_many(many)
    return machine_from(need_text(text), many)


def row_text(row):
    """The text of a row."""
    if not isinstance(row, tuple) or not 1 <= len(row) <= 4 or not is_row(row, len(row)):
        raise BadRow(row)
    return numbers_text(row)


def read_row(many, text):
    """The row of a text."""
    need_many(many)
    return row_from(need_text(text), many)
