"""Formulas: their checks, their parts, whether they hold, and terms and names put in."""

from wholesay.errors import BadFormula, BadIndex, BadName, BadRow, NotPlain, TooGreat
from wholesay.kinds import is_integer
from wholesay.parts import ATOMS, BINDERS, LISTS, MOST_DEEP, MOST_PARTS
from wholesay.parts import first_binder, free_in, free_mask, has_form, inner, is_free, measured, names_in, rebuilt
from wholesay.parts import walked
from wholesay.terms import need_many, need_name, need_numbers, need_term, put_into, value_in


def need_formula(value):
    """The formula, or TooGreat, BadFormula of the first thing of the walk that is not as told."""
    waiting = [((), value, 1)]
    met = 0
    while waiting:
        path, part, deep = waiting.pop()
        met += 1
        if deep > MOST_DEEP:
            raise TooGreat(MOST_DEEP)
        if met > MOST_PARTS:
            raise TooGreat(MOST_PARTS)
        if not has_form(part):
            raise BadFormula(path)
        # No walk gets behind the first ones of a very long tuple.
        for steps, each in reversed(inner(part)[:MOST_PARTS]):
            waiting.append((path + steps, each, deep + 1))
    return value


def need_plain(formula):
    """The plain formula, or also NotPlain."""
    need_formula(formula)
    path = first_binder(formula)
    if path is not None:
        raise NotPlain(path)
    return formula


def need_wide(many, formula):
    """The formula of this width, or also BadWidth, BadName."""
    need_many(many)
    need_formula(formula)
    for name in free_in(formula):
        if name >= many:
            raise BadName(name)
    return formula


def parts_of(formula):
    """The list of all pairs (path, part), in the order of the walk."""
    need_formula(formula)
    return walked(formula)


def part_with(formula, path):
    """The part with this path, or BadIndex."""
    # Equality alone would let True stand for 1.
    if isinstance(path, tuple) and all([is_integer(step) for step in path]):
        for place, part in walked(formula):
            if place == path:
                return part
    raise BadIndex(path)


def part_at(formula, path):
    """The part of the formula with this path."""
    need_formula(formula)
    return part_with(formula, path)


def put_at(formula, path, part):
    """The formula with another part at this path."""
    need_formula(formula)
    part_with(formula, path)
    return need_formula(replaced(formula, path, part))


def replaced(formula, path, part):
    """As put_at, unchecked: the path is one of the formula."""
    if path == ():
        return part
    if formula[0] in LISTS:
        row, at = formula[1], path[1]
        return (formula[0], row[:at] + (replaced(row[at], path[2:], part),) + row[at + 1:])
    return formula[:-1] + (replaced(formula[-1], path[1:], part),)


def is_plain(formula):
    """Whether no some and no all stands in the formula."""
    need_formula(formula)
    return first_binder(formula) is None


def measures(formula):
    """The pair (how many parts, how deep)."""
    need_formula(formula)
    return measured(formula)


def free_names(formula):
    """The ascending tuple of the free names."""
    need_formula(formula)
    return free_in(formula)


def holds(formula, numbers):
    """As holds_at, unchecked; numbers may be a dict by names, too."""
    kind = formula[0]
    if kind == "ge":
        return value_in(formula[1], numbers) >= 0
    if kind == "eq":
        return value_in(formula[1], numbers) == 0
    if kind == "mod":
        return int(value_in(formula[2], numbers)) % formula[1] == 0
    if kind == "not":
        return not holds(formula[1], numbers)
    for part in formula[1]:
        if holds(part, numbers) == (kind == "or"):
            return kind == "or"
    return kind == "and"


def holds_at(formula, numbers):
    """Whether a plain formula holds, its names being these numbers."""
    need_plain(formula)
    need_numbers(numbers)
    if free_mask(formula) >> len(numbers) != 0:
        raise BadRow(numbers)
    return holds(formula, numbers)


def put(formula, name, term):
    """As put_in, unchecked."""
    kind = formula[0]
    if kind in ATOMS:
        return formula[:-1] + (put_into(formula[-1], name, term),)
    if kind in BINDERS:
        return put_behind(formula, name, term)
    return rebuilt(formula, [put(part, name, term) for _, part in inner(formula)])


def put_behind(formula, name, term):
    """As put_in for a some or all, unchecked."""
    kind, own, part = formula
    if own == name or not is_free(part, name):
        return formula
    barred = 0
    for other, _ in term[1]:
        barred |= 1 << other
    if barred >> own & 1 == 1:
        new = least_name_outside(barred | free_mask(part))
        part = put(part, own, (0, ((new, 1),)))
        own = new
    return (kind, own, put(part, name, term))


def least_name_outside(mask):
    """The least name that is not in the mask, or TooGreat."""
    names = names_in(1023 - mask)
    if not names:
        raise TooGreat(10)
    return names[0]


def put_in(formula, name, term):
    """The formula with a term in the place of a name, wherever this is free."""
    need_formula(formula)
    need_name(name)
    need_term(term)
    return put(formula, name, term)


def traded(formula, names):
    """The formula with names exchanged as a dict tells, at all places, bound ones too."""
    kind = formula[0]
    if kind in ATOMS:
        const, pairs = formula[-1]
        return formula[:-1] + ((const, tuple(sorted([(names.get(name, name), factor) for name, factor in pairs]))),)
    parts = [traded(part, names) for _, part in inner(formula)]
    if kind in BINDERS:
        return (kind, names.get(formula[1], formula[1]), parts[0])
    return rebuilt(formula, parts)


def trade_names(formula, one, other):
    """The formula with two names exchanged at all places."""
    need_formula(formula)
    need_name(one)
    need_name(other)
    return traded(formula, {one: other, other: one})


def told_apart(formula, levels):
    """An atom with its names told by the some or all that binds them, so that bound names do not matter."""
    const, pairs = formula[-1]
    return formula[:-1] + (const, sorted([(levels.get(name, (0, name)), factor) for name, factor in pairs]))


def alike_under(one, other, level, levels, others):
    """As same_but_bound, below `level` somes and alls; the dicts tell which of these binds a name."""
    kind = one[0]
    if kind != other[0]:
        return False
    if kind in ATOMS:
        return told_apart(one, levels) == told_apart(other, others)
    if kind in BINDERS:
        level = level + 1
        levels = {**levels, one[1]: (1, level)}
        others = {**others, other[1]: (1, level)}
    first = inner(one)
    second = inner(other)
    if len(first) != len(second):
        return False
    return all([alike_under(first[at][1], second[at][1], level, levels, others) for at in range(len(first))])


def same_but_bound(one, other):
    """Whether two formulas are alike but for their bound names."""
    need_formula(one)
    need_formula(other)
    return alike_under(one, other, 0, {}, {})
