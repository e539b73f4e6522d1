"""Formulas at one row: numbers for one of its places, truth, replies to a front of somes and alls."""

from wholesay.columns import columns_in
from wholesay.errors import BadIndex, BadName, BadRow, NoRow, NotPlain, TooGreat
from wholesay.formulas import holds, need_formula, need_wide
from wholesay.kinds import are_between, is_between, is_row
from wholesay.parts import ATOMS, BINDERS, first_binder, free_in, inner, rebuilt
from wholesay.reading import need_few_names, worked
from wholesay.takeout import atoms_with, candidates, how_many_candidates, period
from wholesay.terms import factor_in, value_in, without_name
from wholesay.working import least_left_out, opposite

MOST_CANDIDATES = 2000
MOST_LISTED = 1000
MOST_NAMED = (10 ** 50) ** 8


def need_place(many, formula, place, row):
    """Check a plain formula of the width, a place and a row."""
    need_wide(many, formula)
    path = first_binder(formula)
    if path is not None:
        raise NotPlain(path)
    if not is_between(place, 0, many - 1):
        raise BadIndex(place)
    if not is_row(row, many):
        raise BadRow(row)


def at_row(formula, place, row):
    """The plain formula with the numbers of the row put in, but for one place; its constants are of any size."""
    if formula[0] not in ATOMS:
        return rebuilt(formula, [at_row(part, place, row) for _, part in inner(formula)])
    factor = factor_in(formula[-1], place)
    value = value_in(without_name(formula[-1], place), row)
    return formula[:-1] + ((value, ((place, factor),) if factor != 0 else ()),)


def looked(many, formula, place, row):
    """As looks, and the formula with the row put in."""
    need_place(many, formula, place, row)
    if how_many_candidates(formula, place) > MOST_CANDIDATES:
        raise TooGreat(MOST_CANDIDATES)
    alone = at_row(formula, place, row)
    standing = [(term[0], divisor) for term, divisor in candidates(alone, place)]
    numbers = [value // divisor for value, divisor in standing if value >= 0 and int(value) % divisor == 0]
    return tuple(sorted(set(numbers))), alone


def looks(many, formula, place, row):
    """The ascending tuple of the numbers that candidates stand for at the row."""
    return looked(many, formula, place, row)[0]


def least_number(many, formula, place, row):
    """The least number for the place with which the formula holds at the row."""
    numbers, alone = looked(many, formula, place, row)
    for number in numbers:
        if holds(alone, {place: number}):
            return number
    raise NoRow()


def numbers_at(many, formula, place, row):
    """All numbers for the place with which the formula holds at the row: listed ones, and a period from a start on."""
    need_place(many, formula, place, row)
    turn = period(formula, place)
    if turn > MOST_LISTED:
        raise TooGreat(MOST_LISTED)
    alone = at_row(formula, place, row)
    far = 0
    for atom in atoms_with(alone, place):
        if atom[0] != "mod":
            border = abs(atom[-1][0]) // abs(factor_in(atom[-1], place))
            if border >= MOST_LISTED:
                raise TooGreat(MOST_LISTED)
            far = max(far, border + 1)
    # Behind all borders the truth goes round with the period.
    return told([holds(alone, {place: number}) for number in range(far + turn)], far)


def told(truths, far):
    """(LISTED, START, PERIOD, RESIDUES) of truths that go round from `far` on, once up to their end."""
    least = least_period(truths[far:])
    residues = sorted([number % least for number in range(far, far + least) if truths[number]])
    start = far
    while start > 0 and truths[start - 1] == ((start - 1) % least in residues):
        start -= 1
    return (tuple([number for number in range(start) if truths[number]]), start, least, tuple(residues))


def least_period(truths):
    """The least period of what goes round with these truths."""
    turn = len(truths)
    for least in range(1, turn):
        if turn % least == 0 and all([truths[at] == truths[at % least] for at in range(turn)]):
            return least
    return turn


def truth_at(many, formula, row):
    """Whether the formula holds at the row."""
    need_wide(many, formula)
    if not is_row(row, many):
        raise BadRow(row)
    need_few_names(formula)
    made, names = worked(formula)
    return is_taken(made, [row[name] for name in names])


def is_taken(machine, numbers):
    """Whether a machine (STEPS, ENDS) takes the numbers, one for each of its places."""
    state = 0
    for column in columns_in(numbers):
        state = machine[0][state][column]
    return machine[1][state]


def is_true(formula):
    """Whether a formula without free names holds."""
    need_formula(formula)
    names = free_in(formula)
    if names:
        raise BadName(names[0])
    need_few_names(formula)
    made, _ = worked(formula)
    return is_taken(made, [])


def front_of(formula):
    """The list of the somes and alls with which the formula begins."""
    front = []
    while formula[0] in BINDERS:
        front.append(formula)
        formula = formula[2]
    return front


def reply(many, formula, row, named):
    """The least number for the next name of the front with which what is behind it holds, of an all fails."""
    need_wide(many, formula)
    if not is_row(row, many):
        raise BadRow(row)
    front = front_of(formula)
    if not are_between(named, 0, MOST_NAMED) or len(named) >= len(front):
        raise BadRow(named)
    kind, name, behind = front[len(named)]
    need_few_names(behind)
    made, names = worked(behind)
    if kind == "all":
        made = opposite(made)
    numbers = {place: number for place, number in enumerate(row)}
    for at, number in enumerate(named):
        numbers[front[at][1]] = number
    found = least_for(made, names, name, numbers)
    if found is None:
        raise NoRow()
    return found


def least_for(machine, names, name, numbers):
    """The least number for the name with which the machine over the names takes the others' numbers, or None."""
    others = [numbers[other] for other in names if other != name]
    if name not in names:
        return 0 if is_taken(machine, others) else None
    return least_left_out(machine, len(names), names.index(name), columns_in(others))
