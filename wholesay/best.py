"""Least rows and greatest sums, of sets and of formulas, and answers judged over all rows."""

from wholesay.errors import BadParameter, NoRow, TooGreat
from wholesay.formulas import need_wide, put
from wholesay.kinds import MOST_FACTOR, are_between, is_integer, is_tuple_of
from wholesay.lines import is_entry, need_set, set_with
from wholesay.machines import all_rows, no_rows
from wholesay.reading import machine_of
from wholesay.squares import weighed
from wholesay.truth import is_taken
from wholesay.turning import set_of

MOST_IN_WEIGHTS = 1000
MOST_LEAST = 60


def need_weights(many, weights):
    """BadParameter of what is no tuple of weights for this width."""
    if not is_tuple_of(weights, many) or not are_between(weights, -MOST_IN_WEIGHTS, MOST_IN_WEIGHTS):
        raise BadParameter(weights)


def is_beneath(row, other):
    """Whether a row is unlike another one and has no greater number."""
    return row != other and all([number <= more for number, more in zip(row, other)])


def bases_of(value):
    """The bases of the lines of a set; NoRow if there are none."""
    if not value[1]:
        raise NoRow()
    return [base for base, _ in value[1]]


def least_rows(value):
    """The ascending tuple of the rows of a set with no row of the set beneath them."""
    need_set(value)
    # Each row of a line is its base or has it beneath.
    bases = [base for base, _ in value[1]]
    return tuple(sorted(set([base for base in bases if not any([is_beneath(other, base) for other in bases])])))


def lowest_row(value):
    """The row of a set whose numbers have the least sum, of several the least."""
    need_set(value)
    return min([(sum(base), base) for base in bases_of(value)])[1]


def spans(value):
    """The pair of the least and the greatest number, None if there is none, at each place of a set."""
    need_set(value)
    bases = bases_of(value)
    found = []
    for place in range(value[0]):
        numbers = [base[place] for base in bases]
        grows = any([period[place] > 0 for _, periods in value[1] for period in periods])
        found.append((min(numbers), None if grows else max(numbers)))
    return tuple(found)


def greatest(value, weights):
    """("none",), ("endless", ROW, STEP) or ("row", SUM, ROW): the greatest sum by weights that a row of a set has."""
    need_set(value)
    need_weights(value[0], weights)
    return greatest_in(value, weights)


def greatest_in(value, weights):
    """As greatest, unchecked."""
    if not value[1]:
        return ("none",)
    for base, periods in value[1]:
        for period in periods:
            if weighed(weights, period) > 0:
                return ("endless", base, period)
    # The other periods of a line make its rows greater without a greater sum.
    worst, row = min([(-weighed(weights, base), base) for base, _ in value[1]])
    return ("row", -worst, row)


def best_rows(value, weights):
    """The set of the rows with the greatest sum by weights."""
    need_set(value)
    need_weights(value[0], weights)
    found = greatest_in(value, weights)
    if found[0] != "row":
        return (value[0], ())
    lines = [(base, tuple([period for period in periods if weighed(weights, period) == 0]))
             for base, periods in value[1] if weighed(weights, base) == found[1]]
    return set_with(value[0], lines)


def least_rows_of(many, formula):
    """The least rows of the set of a formula."""
    return least_rows(set_of(many, formula))


def greatest_of(many, formula, weights):
    """The greatest sum by weights that a row of the set of a formula has."""
    need_wide(many, formula)
    need_weights(many, weights)
    return greatest_in(set_of(many, formula), weights)


def is_greatest(many, formula, weights, answer):
    """Whether a value of any kind is the right answer what the greatest sum is, judged over all rows."""
    need_wide(many, formula)
    need_weights(many, weights)
    machine = machine_of(many, formula)
    if not isinstance(answer, tuple) or len(answer) not in (1, 3) or not isinstance(answer[0], str):
        return False
    if len(answer) == 1:
        return answer[0] == "none" and machine == no_rows(many)
    if answer[0] == "row":
        return is_greatest_row(machine, formula, weights, answer)
    return answer[0] == "endless" and is_endless(many, formula, weights, answer)


def is_greatest_row(machine, formula, weights, answer):
    """Whether a row has the sum that is told, and no row of the machine of the formula a greater one."""
    _, total, row = answer
    many = machine[0]
    if not is_integer(total) or not is_entry(row, many):
        return False
    if total != weighed(weights, row) or not is_taken(machine[1:], row):
        return False
    if abs(total) >= MOST_FACTOR:
        raise TooGreat(MOST_FACTOR)
    greater = (-total - 1, tuple([(name, weight) for name, weight in enumerate(weights) if weight != 0]))
    return machine_of(many, ("and", (formula, ("ge", greater)))) == no_rows(many)


def is_endless(many, formula, weights, answer):
    """Whether a step of a sum above 0 leads from a row of a formula to rows of it for good."""
    _, row, step = answer
    if not is_entry(row, many) or not is_entry(step, many) or weighed(weights, step) <= 0:
        return False
    # The name 0 goes first: behind it stands for how often the step is taken, and is not put in again.
    for place in range(many):
        pairs = ((0, step[place]),) if step[place] != 0 else ()
        formula = put(formula, place, (row[place], pairs))
    return machine_of(1, formula) == all_rows(1)


def is_least_rows(many, formula, rows):
    """Whether a value of any kind is the ascending tuple of all least rows of a formula, judged over all rows."""
    machine = machine_of(many, formula)
    if not isinstance(rows, tuple) or len(rows) > MOST_LEAST or not all([is_entry(row, many) for row in rows]):
        return False
    if any([rows[at] >= rows[at + 1] for at in range(len(rows) - 1)]):
        return False
    if any([is_beneath(row, other) for row in rows for other in rows]):
        return False
    if not all([is_taken(machine[1:], row) for row in rows]):
        return False
    parts = [("or", tuple([("ge", (number - 1, ((place, -1),))) for place, number in enumerate(row)])) for row in rows]
    return machine_of(many, ("and", (formula,) + tuple(parts))) == no_rows(many)
