"""Machines of formulas."""

from wholesay.carries import atom_machine
from wholesay.columns import picked
from wholesay.errors import TooGreat
from wholesay.formulas import need_wide
from wholesay.parts import ATOMS, LISTS, free_in, walked
from wholesay.working import joined, left_out, opposite, spread

MOST_NAMES = 6
MOST_STEP = 300


def need_few_names(formula):
    """TooGreat if a part has more free names than a machine of it may have places."""
    for _, part in walked(formula):
        if len(free_in(part)) > MOST_NAMES:
            raise TooGreat(MOST_NAMES)


def worked(formula):
    """The least machine (STEPS, ENDS) of a formula over its free names, and the tuple of these; TooGreat."""
    kind = formula[0]
    if kind in ATOMS:
        return atom_machine(formula, MOST_STEP), free_in(formula)
    if kind in LISTS:
        return worked_list(kind, [worked(part) for part in formula[1]])
    made, names = worked(formula[-1])
    if kind == "not":
        return opposite(made), names
    if formula[1] not in names:
        return made, names
    place = names.index(formula[1])
    if kind == "all":
        made = opposite(left_out(opposite(made), len(names), place, MOST_STEP))
    else:
        made = left_out(made, len(names), place, MOST_STEP)
    return made, names[:place] + names[place + 1:]


def worked_list(kind, made):
    """As worked, for an and or or of what has been worked, from the left."""
    if not made:
        return (((0,),), (kind == "and",)), ()
    first, names = made[0]
    for second, others in made[1:]:
        union = tuple(sorted(set(names + others)))
        ones = picked(len(union), [union.index(name) for name in names])
        twos = picked(len(union), [union.index(name) for name in others])
        columns = list(zip(ones, twos))
        if kind == "and":
            first = joined(first, second, columns, lambda one, other: one and other, MOST_STEP)
        else:
            first = joined(first, second, columns, lambda one, other: one or other, MOST_STEP)
        names = union
    return first, names


def machine_of(many, formula):
    """The least machine that takes the rows at which the formula of this width holds."""
    need_wide(many, formula)
    need_few_names(formula)
    made, names = worked(formula)
    return (many,) + spread(made, many, names)
