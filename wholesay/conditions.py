"""The conditions of equations, told apart and worked at numbers; nothing is checked here but what is_condition says."""

from wholesay.kinds import is_between, is_tuple_of
from wholesay.squares import weighed

MOST_WEIGHT = 100
MOST_CONST = 1000
MOST_REST = 1000


def is_condition(value, count):
    """Whether it is a condition with that many factors."""
    if not isinstance(value, tuple) or not value or not isinstance(value[0], str):
        return False
    if value[0] == "mod":
        fits = len(value) == 4 and is_between(value[1], 2, MOST_REST)
    else:
        fits = value[0] in ("eq", "ge") and len(value) == 3
    if not fits or not is_between(value[-1], -MOST_CONST, MOST_CONST) or not is_tuple_of(value[-2], count):
        return False
    return all([is_between(factor, -MOST_WEIGHT, MOST_WEIGHT) for factor in value[-2]])


def value_of(condition, numbers):
    """The value of a condition at numbers."""
    return condition[-1] + weighed(condition[-2], numbers)


def change_of(condition, step):
    """What a step adds to the value of a condition."""
    return weighed(condition[-2], step)


def is_held(condition, value):
    """Whether a condition with this value is held."""
    if condition[0] == "ge":
        return value >= 0
    return value == 0 if condition[0] == "eq" else value % condition[1] == 0


def are_held(rows, numbers):
    """Whether the numbers hold all conditions."""
    return all([is_held(row, value_of(row, numbers)) for row in rows])


def level_rows(rows):
    """The conditions with 0 for each constant."""
    return tuple([row[:-1] + (0,) for row in rows])
