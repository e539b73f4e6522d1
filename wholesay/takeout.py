"""Quantifiers taken out: plain formulas that tell what somes and alls tell."""

from math import gcd, lcm

from wholesay.errors import NotPlain, TooGreat
from wholesay.forms import simple
from wholesay.formulas import need_formula, need_plain
from wholesay.kinds import MOST_FACTOR
from wholesay.parts import ALWAYS, ATOMS, BINDERS, MOST_DEEP, MOST_MODULUS, MOST_PARTS, NEVER
from wholesay.parts import inner, measured, count_parts, rebuilt, walked
from wholesay.terms import factor_in, gathered, multiplied, need_name, without_name

MOST_DEEP_TAKEN = 16


def need_about(formula, name):
    """Check a plain formula and a name."""
    need_plain(formula)
    need_name(name)


def atoms_with(formula, name):
    """The list of the atoms with the name, as often as they stand, in the order of the walk."""
    return [part for _, part in walked(formula) if part[0] in ATOMS and factor_in(part[-1], name) != 0]


def size_of(atom, name):
    """A: the factor of the name in an atom, without its sign."""
    return abs(factor_in(atom[-1], name))


def border_of(atom, name):
    """BORDER: the term that A times the name is, where the term of the atom is 0."""
    factor = factor_in(atom[-1], name)
    return multiplied(without_name(atom[-1], name), -1 if factor > 0 else 1)


def period(formula, name):
    """As period_of, unchecked."""
    found = 1
    for atom in atoms_with(formula, name):
        if atom[0] == "mod":
            found = lcm(found, atom[1] // gcd(atom[1], factor_in(atom[-1], name)))
    return found


def period_of(formula, name):
    """D: from any number on, the mods with the name go round with this period."""
    need_about(formula, name)
    return period(formula, name)


def how_many_candidates(formula, name):
    """C: how many candidates there are, equal ones counted each."""
    length = period(formula, name)
    count = length
    for atom in atoms_with(formula, name):
        if atom[0] == "ge":
            count += size_of(atom, name) * length + 1
        elif atom[0] == "eq":
            count += 2
    return count


def work(formula, name):
    """As work_of, unchecked."""
    return how_many_candidates(formula, name) * (count_parts(formula) + 4) + 2


def work_of(formula, name):
    """How much work it is to take the name out."""
    need_about(formula, name)
    return work(formula, name)


def greatest_number(atoms):
    """G: the greatest constant or factor of the atoms, without its sign."""
    greatest = 0
    for atom in atoms:
        const, pairs = atom[-1]
        greatest = max([greatest, abs(const)] + [abs(factor) for _, factor in pairs])
    return greatest


def need_limits(formula, name):
    """Raise the limits of a plain formula and a name."""
    if measured(formula)[1] > MOST_DEEP_TAKEN:
        raise TooGreat(MOST_DEEP)
    if work(formula, name) > MOST_PARTS:
        raise TooGreat(MOST_PARTS)
    atoms = atoms_with(formula, name)
    greatest = greatest_number(atoms)
    if 2 * greatest * greatest * (period(formula, name) + 2) > MOST_FACTOR:
        raise TooGreat(MOST_FACTOR)
    if greatest * max([atom[1] for atom in atoms if atom[0] == "mod"], default=1) > MOST_MODULUS:
        raise TooGreat(MOST_MODULUS)


def need_takeable(formula, name):
    """Check a plain formula and a name, and raise their limits."""
    need_about(formula, name)
    need_limits(formula, name)


def steps_of(atom, name, length):
    """The numbers K that are added to the border of an atom for its candidates."""
    if atom[0] == "ge":
        return list(range(size_of(atom, name) * length + 1))
    if atom[0] == "eq":
        return [0, size_of(atom, name) * length]
    return []


def candidates(formula, name):
    """As candidates_of, unchecked."""
    length = period(formula, name)
    found = {((number, ()), 1): True for number in range(length)}
    for atom in atoms_with(formula, name):
        const, pairs = border_of(atom, name)
        for step in steps_of(atom, name, length):
            found[((const + step, pairs), size_of(atom, name))] = True
    return tuple(sorted(found))


def candidates_of(formula, name):
    """The ascending tuple of the unlike candidates."""
    need_takeable(formula, name)
    return candidates(formula, name)


def quotient_put_in(formula, name, term, divisor):
    """The formula with the quotient of a term in the place of the name."""
    if formula[0] not in ATOMS:
        return rebuilt(formula, [quotient_put_in(part, name, term, divisor) for _, part in inner(formula)])
    factor = factor_in(formula[-1], name)
    if factor == 0:
        return formula
    const, pairs = multiplied(without_name(formula[-1], name), divisor)
    more, others = multiplied(term, factor)
    put = gathered(const + more, pairs + others)
    if formula[0] == "mod":
        return ("mod", formula[1] * divisor, put)
    return (formula[0], put)


def some_with(formula, name):
    """As some_out, unchecked and not simple."""
    cases = []
    for term, divisor in candidates(formula, name):
        case = [("ge", term), quotient_put_in(formula, name, term, divisor)]
        if divisor > 1:
            case.append(("mod", divisor, term))
        cases.append(("and", tuple(case)))
    return ("or", tuple(cases))


def some_out(formula, name):
    """A plain formula that holds where this one holds with some number for the name."""
    need_takeable(formula, name)
    return simple(some_with(formula, name))


def all_with(formula, name):
    """As all_out, unchecked and not simple."""
    return ("not", some_with(("not", formula), name))


def all_out(formula, name):
    """A plain formula that holds where this one holds with each number for the name."""
    need_takeable(formula, name)
    return simple(all_with(formula, name))


def far_out(formula, name, number):
    """What the formula is for great numbers for the name that are like this one by all its mods."""
    if formula[0] not in ATOMS:
        return rebuilt(formula, [far_out(part, name, number) for _, part in inner(formula)])
    factor = factor_in(formula[-1], name)
    if factor == 0:
        return formula
    if formula[0] == "mod":
        return quotient_put_in(formula, name, (number, ()), 1)
    return ALWAYS if formula[0] == "ge" and factor > 0 else NEVER


def far_forms(formula, name):
    """The tuple of what the formula is for great numbers, one for each remainder by the period."""
    return tuple([far_out(formula, name, number) for number in range(period(formula, name))])


def often_out(formula, name):
    """A plain formula that holds where this one holds with infinitely many numbers for the name."""
    need_takeable(formula, name)
    return simple(("or", far_forms(formula, name)))


def nearly_out(formula, name):
    """A plain formula that holds where this one holds with all but finitely many numbers for the name."""
    need_takeable(formula, name)
    return simple(("and", far_forms(formula, name)))


def binders_of(formula):
    """The pairs (path, part) of the somes and alls, and how many other parts stand in none; NotPlain."""
    found = []
    outside = 0
    for path, part in walked(formula):
        behind = any([path[:len(place)] == place for place, _ in found])
        if part[0] in BINDERS:
            if behind:
                raise NotPlain(path)
            found.append((path, part))
        elif not behind:
            outside += 1
    return found, outside


def flat_out(formula):
    """A plain formula that holds at the same numbers as one with somes and alls, none within another."""
    need_formula(formula)
    found, outside = binders_of(formula)
    if measured(formula)[1] > MOST_DEEP_TAKEN:
        raise TooGreat(MOST_DEEP)
    for _, part in found:
        need_limits(part[2], part[1])
    if sum([work(part[2], part[1]) for _, part in found]) + outside > MOST_PARTS:
        raise TooGreat(MOST_PARTS)
    return simple(flattened(formula))


def flattened(formula):
    """The formula with each some and all taken out, unchecked."""
    if formula[0] in ATOMS:
        return formula
    if formula[0] == "some":
        return some_with(formula[2], formula[1])
    if formula[0] == "all":
        return all_with(formula[2], formula[1])
    return rebuilt(formula, [flattened(part) for _, part in inner(formula)])
