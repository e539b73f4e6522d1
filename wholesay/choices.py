"""Choices: formulas of the least or greatest number for the last place, by the numbers of the first places."""

from math import lcm

from wholesay.asking import first_taken
from wholesay.bends import Curve
from wholesay.errors import BadWidth, NotPlain, TooGreat
from wholesay.forms import simple, simple_list, simple_not
from wholesay.formulas import need_wide, put_in
from wholesay.parts import ATOMS, MOST_DEEP, MOST_PARTS, NEVER, first_binder, measured, walked
from wholesay.reading import machine_of
from wholesay.takeout import all_with, atoms_with, candidates, greatest_number, how_many_candidates, need_limits
from wholesay.takeout import quotient_put_in, size_of, work
from wholesay.terms import gathered, multiplied, need_many

MOST_DEEP_CHOSEN = 12
MOST_STRAIGHT = 12
MOST_CANDIDATES = 60
MOST_TURN = 400


def need_first_places(many, formula):
    """Check a formula of a width with first places and a last one."""
    if need_many(many) == 1:
        raise BadWidth(many)
    need_wide(many, formula)


def need_plain_choice(many, formula):
    """Check a plain formula of a width with first places and a last one."""
    need_first_places(many, formula)
    path = first_binder(formula)
    if path is not None:
        raise NotPlain(path)


def with_other(many, formula):
    """The formula with the name behind the last one in the place of the last one."""
    return put_in(formula, many - 1, (0, ((many, 1),)))


def none_beyond(many, formula, sign):
    """H: the number of the name behind the last one is none below (sign 1) or above (sign -1) with which it holds."""
    beyond = ("ge", (-1, ((many - 1, sign), (many, -sign))))
    return ("not", ("and", (with_other(many, formula), beyond)))


def need_chosen(many, formula):
    """Check a plain formula and raise the limits of a choice."""
    need_plain_choice(many, formula)
    parts, deep = measured(formula)
    if deep > MOST_DEEP_CHOSEN:
        raise TooGreat(MOST_DEEP)
    none = none_beyond(many, formula, 1)
    need_limits(none, many)
    if work(none, many) + parts + 1 > MOST_PARTS:
        raise TooGreat(MOST_PARTS)


def chosen(many, formula, sign):
    """The formula that holds where this one does, and with no lesser number (sign 1), or no greater one (sign -1)."""
    return simple(("and", (formula, all_with(none_beyond(many, formula, sign), many))))


def least_choice(many, formula):
    """A plain formula that holds where this one does, but with no lesser number at the last place."""
    need_chosen(many, formula)
    return chosen(many, formula, 1)


def greatest_choice(many, formula):
    """A plain formula that holds where this one does, but with no greater number at the last place."""
    need_chosen(many, formula)
    return chosen(many, formula, -1)


def standing(formula, name, candidate):
    """The simple form that tells where a candidate stands for a number with which the formula holds."""
    term, divisor = candidate
    parts = [("ge", term), quotient_put_in(formula, name, term, divisor)]
    if divisor > 1:
        parts.append(("mod", divisor, term))
    return simple(("and", tuple(parts)))


def lesser(candidate, other):
    """The simple form that tells where a candidate stands for less than another one."""
    const, pairs = multiplied(candidate[0], -other[1])
    more, others = multiplied(other[0], candidate[1])
    return simple(("ge", gathered(const + more - 1, pairs + others)))


def pieces(many, formula):
    """The tuple of (CONDITION, CANDIDATE): where each candidate stands for the least number with which it holds."""
    need_chosen(many, formula)
    told = [(candidate, standing(formula, many - 1, candidate)) for candidate in candidates(formula, many - 1)]
    told = [(candidate, stands) for candidate, stands in told if stands != NEVER]
    found = []
    for candidate, stands in told:
        parts = [simple_not(simple_list("and", [lesser(other, candidate), others]))
                 for other, others in told if other != candidate]
        condition = simple_list("and", [stands] + parts)
        if condition != NEVER:
            found.append((condition, candidate))
    return tuple(found)


def straight(formula):
    """(START, PERIOD, FIRSTS, LINES): the least numbers by straight lines from some number on, for the width 2."""
    need_plain_choice(2, formula)
    atoms = [part for _, part in walked(formula) if part[0] in ATOMS]
    moduli = [atom[1] for atom in atoms if atom[0] == "mod"]
    if max([greatest_number(atoms)] + moduli) > MOST_STRAIGHT:
        raise TooGreat(MOST_STRAIGHT)
    if how_many_candidates(formula, 1) > MOST_CANDIDATES:
        raise TooGreat(MOST_CANDIDATES)
    turn = 1
    for atom in atoms_with(formula, 1):
        if atom[0] != "mod":
            turn = lcm(turn, size_of(atom, 1))
    rest = 1
    for modulus in moduli:
        rest = lcm(rest, modulus)
    if turn * rest > MOST_TURN:
        raise TooGreat(MOST_TURN)
    return Curve(formula, turn * rest).told()


def first_at(many, formula):
    """The first row at which a formula holds, None if there is none."""
    machine = machine_of(many, formula)
    return first_taken(machine[0], machine[1], machine[2])


def flaw_of(many, formula, graph):
    """() if a graph is a choice of a formula, else the first flaw: ("outside", ROW), ("two", ROW) or ("lacks", ROW)."""
    need_first_places(many, formula)
    need_wide(many, graph)
    row = first_at(many, ("and", (graph, ("not", formula))))
    if row is not None:
        return ("outside", row)
    last = many - 1
    two = ("and", (graph, with_other(many, graph), ("ge", (-1, ((last, -1), (many, 1))))))
    row = first_at(last, ("some", last, ("some", many, two)))
    if row is not None:
        return ("two", row)
    row = first_at(last, ("and", (("some", last, formula), ("not", ("some", last, graph)))))
    return () if row is None else ("lacks", row)
