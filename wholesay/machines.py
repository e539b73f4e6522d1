"""Machines: their checks, how they read rows, and machines made of rows and of machines."""

from wholesay.columns import columns_in
from wholesay.errors import BadIndex, BadMachine, BadRow, SayError, TooGreat, Unlike
from wholesay.kinds import is_between, is_row, is_tuple_of
from wholesay.states import least_states
from wholesay.terms import need_many, need_row
from wholesay.working import joined, opposite, same_columns

MOST_STATES = 600
MOST_PAIRS = 3000
MOST_COLUMNS = 1000


def need_machine(value):
    """The machine, or BadMachine, TooGreat of the first thing that is not as told."""
    if not is_tuple_of(value, 3):
        raise BadMachine(())
    many, steps, ends = value
    if not is_between(many, 1, 4):
        raise BadMachine((0,))
    if not isinstance(steps, tuple) or not steps:
        raise BadMachine((1,))
    if len(steps) > MOST_STATES:
        raise TooGreat(MOST_STATES)
    if not is_tuple_of(ends, len(steps)):
        raise BadMachine((2,))
    for state in range(len(steps)):
        need_state(many, steps, ends, state)
    for state, row in enumerate(steps):
        if ends[row[0]] != ends[state]:
            raise BadMachine((2, state))
    return value


def need_state(many, steps, ends, state):
    """Look at the row and the end of one state."""
    row = steps[state]
    if not is_tuple_of(row, 1 << many):
        raise BadMachine((1, state))
    for column, target in enumerate(row):
        if not is_between(target, 0, len(steps) - 1):
            raise BadMachine((1, state, column))
    if ends[state] is not True and ends[state] is not False:
        raise BadMachine((2, state))


def is_machine(value):
    """Whether it is a machine."""
    try:
        need_machine(value)
    except SayError:
        return False
    return True


def need_two(first, second):
    """Check two machines, which must have one width: else Unlike."""
    need_machine(first)
    need_machine(second)
    if first[0] != second[0]:
        raise Unlike(second[0])


def columns_of(many, row):
    """The tuple of the columns of a row."""
    need_row(many, row)
    return tuple(columns_in(row))


def row_of(many, columns):
    """The row that has these columns; it may have numbers of any size."""
    need_many(many)
    if not isinstance(columns, tuple):
        raise BadIndex(columns)
    if len(columns) > MOST_COLUMNS:
        raise TooGreat(MOST_COLUMNS)
    for column in columns:
        if not is_between(column, 0, (1 << many) - 1):
            raise BadIndex(column)
    return tuple([number_of(columns, place) for place in range(many)])


def number_of(columns, place):
    """The number at a place of the row with these columns."""
    return sum([(column >> place & 1) << at for at, column in enumerate(columns)])


def run_of(machine, row):
    """The tuple of the states ahead of, between and behind the columns of a row."""
    need_machine(machine)
    if not is_row(row, machine[0]):
        raise BadRow(row)
    states = [0]
    for column in columns_in(row):
        states.append(machine[1][states[-1]][column])
    return tuple(states)


def takes(machine, row):
    """Whether the machine takes the row."""
    states = run_of(machine, row)
    return machine[2][states[-1]]


def always(many, truth):
    """The machine with one state that takes all rows or none."""
    return (many, (tuple([0 for _ in range(1 << many)]),), (truth,))


def no_rows(many):
    """The machine that takes no row."""
    return always(need_many(many), False)


def all_rows(many):
    """The machine that takes each row."""
    return always(need_many(many), True)


def just(many, row):
    """The machine that takes one row alone."""
    need_row(many, row)
    # Behind the columns of the row only zeros may come; all else leads to a last state for good.
    columns = columns_in(row) + [0]
    end = len(columns) - 1
    lost = len(columns)
    steps = [[lost for _ in range(1 << many)] for _ in range(lost + 1)]
    for state, column in enumerate(columns):
        steps[state][column] = min(state + 1, end)
    return (many,) + least_states(steps, [state == end for state in range(lost + 1)])


def least(machine):
    """As least_machine, unchecked."""
    return (machine[0],) + least_states(machine[1], machine[2])


def least_machine(machine):
    """The least machine that takes the same rows."""
    need_machine(machine)
    return least(machine)


def turned(machine):
    """The machine that takes the other rows."""
    need_machine(machine)
    return (machine[0],) + opposite(least_states(machine[1], machine[2]))


def made_of_two(first, second, truth):
    """The machine that takes what `truth` tells by whether each of two takes it; all errors of two machines."""
    need_two(first, second)
    many = first[0]
    one = least_states(first[1], first[2])
    other = least_states(second[1], second[2])
    made = joined(one, other, same_columns(many), truth, MOST_PAIRS)
    if len(made[0]) > MOST_STATES:
        raise TooGreat(MOST_STATES)
    return (many,) + made


def both(first, second):
    """The machine that takes the rows that both take."""
    return made_of_two(first, second, lambda one, other: one and other)


def either(first, second):
    """The machine that takes the rows that one or both take."""
    return made_of_two(first, second, lambda one, other: one or other)


def less(first, second):
    """The machine that takes the rows that the first one takes and the second one does not."""
    return made_of_two(first, second, lambda one, other: one and not other)
