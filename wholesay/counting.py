"""How many rows a machine takes for each parameter, its number at place 0."""

from wholesay.errors import BadParameter, TooGreat
from wholesay.kinds import MOST_NUMBER, is_between
from wholesay.machines import MOST_PAIRS, MOST_STATES, least, less, need_machine
from wholesay.states import explored, least_states
from wholesay.tallies import (
    first_numbers, lasts_of, moved_on, tally_at, tally_below, targets_of, total_of_rows, with_end_ahead)
from wholesay.working import led_to, spread, states_in

MOST_COUNT = 20
MOST_COUNT_MODULUS = 12


def need_parameter(value, low, high):
    """BadParameter of what is no integer from low to high."""
    if not is_between(value, low, high):
        raise BadParameter(value)


def count_at(machine, n):
    """How many rows with the parameter n the machine takes, None of endlessly many."""
    need_machine(machine)
    need_parameter(n, 0, MOST_NUMBER)
    return tally_at(machine[1], machine[2], n)


def count_below(machine, n):
    """How many rows with a parameter below n the machine takes, None if one of these has endlessly many."""
    need_machine(machine)
    need_parameter(n, 0, MOST_NUMBER)
    return tally_below(machine[1], machine[2], n)


def need_states(made):
    """The machine of width 1 of a pair (STEPS, ENDS); TooGreat of too many states."""
    if len(made[0]) > MOST_STATES:
        raise TooGreat(MOST_STATES)
    return (1,) + made


def endless(machine):
    """The least machine of width 1 that takes the parameters with endlessly many rows."""
    need_machine(machine)
    _, steps, ends = least(machine)
    masks = [[sum([1 << target for target in sorted(set(row))]) for row in targets_of(steps, digit)]
             for digit in range(2)]

    def follow(mask):
        states = states_in(mask)
        return [led_to(table, states) for table in masks]

    found, rows = explored(1, follow, MOST_PAIRS)
    good = sum([1 << state for state, last in enumerate(lasts_of(steps, ends)) if last is None])
    return need_states(least_states(rows, [mask & good != 0 for mask in found]))


def finite_part(machine):
    """The least machine that takes the rows whose parameter has a finite count."""
    far = endless(machine)
    return less(machine, (machine[0],) + spread(far[1:], machine[0], (0,)))


def ways(machine):
    """(ZERO, ONE, LAST) of the finite part: how many columns lead from state to state, how many rows are at an end."""
    _, steps, ends = finite_part(machine)
    return (table_of(steps, 0), table_of(steps, 1), tuple(lasts_of(steps, ends)))


def table_of(steps, digit):
    """How many columns with this digit at place 0 lead from each state to each state."""
    return tuple([tuple([row.count(target) for target in range(len(steps))]) for row in targets_of(steps, digit)])


def exactly(machine, how_many):
    """The least machine of width 1 that takes the parameters with this count."""
    need_machine(machine)
    need_parameter(how_many, 0, MOST_COUNT)

    def kept(number):
        return min(number, how_many + 1)

    return need_states(counted(least(machine), kept, lambda total: total == how_many))


def counts_left(machine, modulus, rest):
    """The least machine of width 1 that takes the parameters whose counts are finite and leave the rest."""
    need_machine(machine)
    need_parameter(modulus, 2, MOST_COUNT_MODULUS)
    need_parameter(rest, 0, modulus - 1)
    made = counted(finite_part(machine), lambda number: number % modulus,
                   lambda total: total % modulus == rest)
    return less(need_states(made), endless(machine))


def counted(machine, kept, fits):
    """The least pair (STEPS, ENDS) that takes the parameters whose counts fit; `kept` makes numbers small."""
    _, steps, ends = machine
    live = [state for state, truth in enumerate(with_end_ahead(steps, ends)) if truth]
    at = {state: index for index, state in enumerate(live)}
    tables = [[[at[target] for target in row if target in at] for row in live_rows(steps, digit, live)]
              for digit in range(2)]

    def follow(numbers):
        return [tuple([kept(number) for number in moved_on(numbers, table)]) for table in tables]

    found, rows = explored(tuple(first_numbers(len(steps))[:len(live)]), follow, MOST_PAIRS)
    every = lasts_of(steps, ends)
    totals = [total_of_rows(numbers, [every[state] for state in live]) for numbers in found]
    return least_states(rows, [total is not None and fits(total) for total in totals])


def live_rows(steps, digit, live):
    """The targets of these states alone."""
    targets = targets_of(steps, digit)
    return [targets[state] for state in live]
