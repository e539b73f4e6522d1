"""Machines made of machines, over any number of places, as pairs (STEPS, ENDS); nothing here checks them."""

from wholesay.columns import opened, picked
from wholesay.states import explored, least_states


def spread(machine, many, places):
    """The least pair of `many` places that reads these of them as the machine reads its own."""
    steps, ends = machine
    columns = picked(many, places)
    return least_states([[row[column] for column in columns] for row in steps], ends)


def opposite(machine):
    """The pair that takes the others; it is least if the machine is."""
    return (machine[0], tuple([not end for end in machine[1]]))


def pairs_of(first, second, columns, most):
    """The list of the pairs of states to which the same columns lead from (0, 0), and their rows; TooGreat(most).

    For each column stands in `columns` which one the first machine reads, and which one the second.
    """

    def follow(pair):
        row = first[0][pair[0]]
        beside = second[0][pair[1]]
        return [(row[one], beside[other]) for one, other in columns]

    return explored((0, 0), follow, most)


def same_columns(many):
    """The columns of two machines of this width that read the same places."""
    return [(column, column) for column in range(1 << many)]


def joined(first, second, columns, truth, most):
    """The least pair that takes what `truth` tells by whether both machines take it; TooGreat(most)."""
    found, steps = pairs_of(first, second, columns, most)
    return least_states(steps, [truth(first[1][one], second[1][other]) for one, other in found])


def states_in(mask):
    """The list of the states of a set, which is the sum of 2 ** STATE of them."""
    return [state for state in range(mask.bit_length()) if mask >> state & 1 == 1]


def led_to(targets, states):
    """The set of all states to which one column leads from these; targets tells the set for each."""
    mask = 0
    for state in states:
        mask |= targets[state]
    return mask


def ending(steps, ends, columns):
    """The set of the states from which any of these columns, again and again, lead to an end."""
    mask = sum([1 << state for state, end in enumerate(ends) if end])
    grown = True
    while grown:
        grown = False
        for state, row in enumerate(steps):
            if mask >> state & 1 == 0 and any([mask >> row[column] & 1 == 1 for column in columns]):
                mask |= 1 << state
                grown = True
    return mask


def left_out(machine, many, place, most):
    """The least pair that takes what some number at the place of `many` makes the machine take; TooGreat(most)."""
    steps, ends = machine
    columns = opened(many, place)
    targets = [[1 << row[zero] | 1 << row[one] for row in steps] for zero, one in columns]

    def follow(mask):
        states = states_in(mask)
        return [led_to(column, states) for column in targets]

    found, rows = explored(1, follow, most)
    # The number may have more digits than all others.
    good = ending(steps, ends, columns[0])
    return least_states(rows, [mask & good != 0 for mask in found])


def least_left_out(machine, many, place, numbers):
    """The least number with which, at the place among the others, the machine takes them, None if there is none."""
    steps, ends = machine
    columns = opened(many, place)
    # Behind the others' digits it has fewer digits than there are states: none is come to twice.
    pairs = [columns[column] for column in numbers + [0 for _ in steps]]
    least = [0 if end else None for end in ends]
    for zero, one in reversed(pairs):
        least = [lesser(least[row[zero]], least[row[one]]) for row in steps]
    return least[0]


def lesser(even, odd):
    """The lesser one of twice the first and twice the second and one, None standing for no number."""
    if even is None:
        return None if odd is None else 2 * odd + 1
    if odd is None or even <= odd:
        return 2 * even
    return 2 * odd + 1
