"""The least and the ground solutions of equations."""

from wholesay.equations import need_equations
from wholesay.solving import solved


def least(equations):
    """The least solutions, ascending."""
    return solved(need_equations(equations))[0]


def ground(equations):
    """The ground solutions, ascending."""
    return solved(need_equations(equations))[1]
