"""Formulas turned into sets and sets into formulas and machines, and whole questions about sets."""

from wholesay.asking import first_apart, is_within
from wholesay.equations import MOST_UNKNOWNS, told_set
from wholesay.errors import NotPlain, TooGreat
from wholesay.forms import alternatives, inward, simplified
from wholesay.formulas import need_wide
from wholesay.kinds import MOST_FACTOR
from wholesay.lines import MOST_LINES, need_set, need_two_sets
from wholesay.ordering import put_in_order
from wholesay.parts import ATOMS, LISTS, MOST_MODULUS, MOST_PARTS, inner
from wholesay.reading import machine_of
from wholesay.squares import apart_at, square_of, weighed

MOST_LITERALS_READ = 12
MOST_ALTERNATIVES_READ = 64
MOST_MODULUS_READ = 1000
MOST_CONST_READ = 999
MOST_FACTOR_READ = 100
FIRST_OWN_NAME = 10


def set_of(many, formula):
    """The set of all rows at which a formula of the width holds."""
    need_wide(many, formula)
    need_somes(formula)
    need_small(formula)
    names = OwnNames()
    found = alternatives(names.bare(inward(formula), {}), MOST_LITERALS_READ, MOST_ALTERNATIVES_READ)
    lines = {}
    for each in found:
        for line in told_set(many, equations_of(many, each))[1]:
            lines[line] = True
    if len(lines) > MOST_LINES:
        raise TooGreat(MOST_LINES)
    return (many, tuple(sorted(lines)))


def need_somes(formula):
    """NotPlain of the first some or all that is an all in the inward form."""
    waiting = [((), formula, 0)]
    while waiting:
        path, part, nots = waiting.pop()
        if part[0] == ("some" if nots & 1 == 1 else "all"):
            raise NotPlain(path)
        more = nots + 1 if part[0] == "not" else nots
        for steps, each in reversed(inner(part)):
            waiting.append((path + steps, each, more))


def need_small(formula):
    """TooGreat of the first atom with a number that equations do not have."""
    if formula[0] not in ATOMS:
        for _, part in inner(formula):
            need_small(part)
        return
    const, pairs = formula[-1]
    if formula[0] == "mod" and formula[1] > MOST_MODULUS_READ:
        raise TooGreat(MOST_MODULUS_READ)
    if abs(const) > MOST_CONST_READ:
        raise TooGreat(MOST_CONST_READ)
    if any([abs(factor) > MOST_FACTOR_READ for _, factor in pairs]):
        raise TooGreat(MOST_FACTOR_READ)


class OwnNames:
    """Names of their own for what somes bind, each used once."""

    def __init__(self):
        self.coming = FIRST_OWN_NAME

    def bare(self, formula, own):
        """An inward formula without somes and nots; `own` tells the own names of the bound ones."""
        kind = formula[0]
        if kind == "some":
            self.coming += 1
            more = {name: own[name] for name in own}
            more[formula[1]] = self.coming - 1
            return self.bare(formula[2], more)
        if kind in LISTS:
            return (kind, tuple([self.bare(part, own) for part in formula[1]]))
        if kind == "not":
            return other_rests(renamed(formula[1], own))
        return renamed(formula, own)


def renamed(atom, own):
    """The atom with own names in the place of bound ones."""
    const, pairs = atom[-1]
    return atom[:-1] + ((const, tuple(sorted([(own.get(name, name), factor) for name, factor in pairs]))),)


def other_rests(atom):
    """The or of the mods that hold where a mod does not."""
    _, modulus, (const, pairs) = atom
    return ("or", tuple([("mod", modulus, (rest, pairs)) for rest in range(modulus) if rest != const % modulus]))


def equations_of(many, alternative):
    """The equations of an alternative, the places ahead of the other names; TooGreat of too many of these."""
    names = [name for literal in alternative for name, _ in literal[-1][1] if name >= many]
    unknowns = list(range(many)) + sorted(set(names))
    if len(unknowns) > MOST_UNKNOWNS:
        raise TooGreat(MOST_UNKNOWNS)
    rows = []
    for literal in alternative:
        const, pairs = literal[-1]
        factors = {name: factor for name, factor in pairs}
        rows.append(literal[:-1] + (tuple([factors.get(name, 0) for name in unknowns]), const))
    return (len(unknowns), tuple(rows))


def formula_of(value):
    """A plain formula that holds at exactly the rows of a set."""
    many, lines = put_in_order(need_set(value))
    parts = [line_formula(many, line) for line in lines]
    if 1 + len(parts) + sum([len(part[1]) for part in parts]) > MOST_PARTS:
        raise TooGreat(MOST_PARTS)
    return ("or", tuple(parts))


def line_formula(many, line):
    """The and of the atoms of an independent line."""
    base, periods = line
    square = square_of(many, periods)
    places, size, weights = square
    if size > MOST_MODULUS:
        raise TooGreat(MOST_MODULUS)
    atoms = []
    for each in weights:
        term = need_small_term(term_of(each, base))
        atoms.append(("ge", term))
        if size >= 2:
            atoms.append(("mod", size, term))
    for place in range(many):
        if place not in places:
            atoms.append(("eq", need_small_term(term_of(apart_at(many, periods, square, place), base))))
    return ("and", tuple(atoms))


def term_of(weights, base):
    """The term whose value at a row is the sum by weights of the row less the base."""
    return (-weighed(weights, base), tuple([(name, weight) for name, weight in enumerate(weights) if weight != 0]))


def need_small_term(term):
    """The term, or TooGreat of a constant or factor that none may have."""
    if max([abs(term[0])] + [abs(factor) for _, factor in term[1]]) > MOST_FACTOR:
        raise TooGreat(MOST_FACTOR)
    return term


def machine_of_set(value):
    """The least machine that takes exactly the rows of a set."""
    formula = formula_of(value)
    return machine_of(value[0], formula)


def set_within(one, other):
    """Whether each row of one set is a row of the other one."""
    need_two_sets(one, other)
    return is_within(machine_of_set(one), machine_of_set(other))


def set_apart(one, other):
    """The first row that just one of two sets has."""
    need_two_sets(one, other)
    return first_apart(machine_of_set(one), machine_of_set(other))


def set_others(value):
    """The set of all rows that a set does not have."""
    formula = formula_of(value)
    return set_of(value[0], simplified(("not", formula)))


def set_less(one, other):
    """The set of the rows of one set that the other one does not have."""
    need_two_sets(one, other)
    first = formula_of(one)
    return set_of(one[0], simplified(("and", (first, ("not", formula_of(other))))))
