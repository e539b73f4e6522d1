"""Equations: their checks, solutions taken apart, the sets of solutions, and conditions that all solutions hold."""

from wholesay.conditions import are_held, change_of, is_condition, is_held, level_rows, value_of
from wholesay.errors import BadEquations, BadRow, NoRow, TooGreat, Unlike
from wholesay.kinds import MOST_FACTOR, is_between, is_row, is_tuple_of
from wholesay.lines import set_with
from wholesay.solving import solved
from wholesay.squares import added
from wholesay.terms import need_many

MOST_UNKNOWNS = 12
MOST_CONDITIONS = 12


def need_equations(value):
    """The equations, or BadEquations of the first place that is not as told."""
    if not is_tuple_of(value, 2):
        raise BadEquations(())
    count, rows = value
    if not is_between(count, 1, MOST_UNKNOWNS):
        raise BadEquations((0,))
    if not isinstance(rows, tuple) or len(rows) > MOST_CONDITIONS:
        raise BadEquations((1,))
    for at, row in enumerate(rows):
        if not is_condition(row, count):
            raise BadEquations((1, at))
    return value


def need_numbers_for(equations, numbers):
    """Check the equations, and that these are as many numbers as there are unknowns."""
    need_equations(equations)
    if not is_row(numbers, equations[0]):
        raise BadRow(numbers)


def homogeneous(equations):
    """The equations with 0 for each constant."""
    need_equations(equations)
    return (equations[0], level_rows(equations[1]))


def solves(equations, numbers):
    """Whether the numbers are a solution."""
    need_numbers_for(equations, numbers)
    return are_held(equations[1], numbers)


def split(equations, numbers):
    """(LEAST, TURNS): how often each ground solution in turn can be taken off a solution, and what is left."""
    need_numbers_for(equations, numbers)
    if not are_held(equations[1], numbers):
        raise NoRow()
    turned = []
    for step in solved(equations)[1]:
        times = times_in(equations[1], step, numbers)
        turned.append(times)
        numbers = added(numbers, step, -times)
    return (numbers, tuple(turned))


def times_in(rows, step, numbers):
    """How often a ground solution can be taken off a solution."""
    most = [number // each for number, each in zip(numbers, step) if each > 0]
    for row in rows:
        change = change_of(row, step)
        if row[0] == "ge" and change > 0:
            most.append(value_of(row, numbers) // change)
    return min(most)


def told_set(many, equations):
    """The set of the first numbers of all solutions."""
    need_many(many)
    need_equations(equations)
    if many > equations[0]:
        raise Unlike(equations[0])
    least, ground = solved(equations)
    return set_of_lines(many, [row[:many] for row in least], [row[:many] for row in ground])


def set_of_lines(many, bases, periods):
    """The set with a line for each base, all with the same periods; TooGreat of a great number comes first."""
    if bases and max([max(row) for row in bases + periods]) > MOST_FACTOR:
        raise TooGreat(MOST_FACTOR)
    return set_with(many, [(base, periods) for base in bases])


def counter(equations, condition):
    """None if all solutions hold a further condition, else a solution that does not."""
    need_equations(equations)
    if not is_condition(condition, equations[0]):
        raise BadEquations((1, len(equations[1])))
    least, ground = solved(equations)
    for row in least:
        if not is_held(condition, value_of(condition, row)):
            return row
    if least:
        for step in ground:
            times = times_to_fail(condition, value_of(condition, least[0]), change_of(condition, step))
            if times is not None:
                return added(least[0], step, times)
    return None


def times_to_fail(condition, value, change):
    """How often at least the value must be changed so that a condition that is held fails; None if it never does."""
    if condition[0] == "ge":
        return None if change >= 0 else value // -change + 1
    return None if is_held(condition, value + change) else 1
