"""How many rows machines take for each number at place 0, their parameter; nothing here checks the machines.

A column is told apart by its digit at place 0: the even columns have the digit 0 there, the odd ones 1.
"""


def targets_of(steps, digit):
    """For each state the states to which the columns with this digit at place 0 lead, each as often as one does."""
    return [row[digit::2] for row in steps]


def moved_on(numbers, targets):
    """What comes of a number for each state behind one digit: the sums over the columns that lead to each state."""
    found = [0 for _ in numbers]
    for state, number in enumerate(numbers):
        if number != 0:
            for target in targets[state]:
                found[target] += number
    return found


def with_end_ahead(steps, near):
    """The list that tells for each state whether a state that `near` tells is come to by the rows of steps."""
    sources = [[] for _ in steps]
    for state, row in enumerate(steps):
        for target in row:
            sources[target].append(state)
    found = list(near)
    waiting = [state for state, truth in enumerate(near) if truth]
    while waiting:
        for source in sources[waiting.pop()]:
            if not found[source]:
                found[source] = True
                waiting.append(source)
    return found


def lasts_of(steps, ends):
    """For each state how many rows with the parameter 0 are taken if it is the first one; None of endlessly many.

    A row is told by its columns up to the last one that is not 0. If more such columns may follow behind a circle,
    the circle can be gone round as often as one likes ahead of them.
    """
    even = targets_of(steps, 0)
    here = [len([to for to in row[1:] if ends[to]]) for row in even]
    more = with_end_ahead(even, [count > 0 for count in here])
    ahead = [[to for to in row if more[to]] if more[state] else [] for state, row in enumerate(even)]
    found = [None for _ in steps]
    left = [len(row) for row in ahead]
    sources = [[] for _ in steps]
    for state, row in enumerate(ahead):
        for target in row:
            sources[target].append(state)
    waiting = [state for state, count in enumerate(left) if count == 0]
    while waiting:
        state = waiting.pop()
        found[state] = here[state] + sum([found[target] for target in ahead[state]])
        for source in sources[state]:
            left[source] -= 1
            if left[source] == 0:
                waiting.append(source)
    return [None if count is None else count + (1 if ends[state] else 0) for state, count in enumerate(found)]


def total_of_rows(numbers, lasts):
    """How many rows there are behind so many ways to each state, None of endlessly many."""
    if any([number != 0 and last is None for number, last in zip(numbers, lasts)]):
        return None
    return sum([number * last for number, last in zip(numbers, lasts) if number != 0])


def tally_at(steps, ends, parameter):
    """How many rows with the parameter are taken, None of endlessly many."""
    tables = [targets_of(steps, 0), targets_of(steps, 1)]
    numbers = first_numbers(len(steps))
    for at in range(parameter.bit_length()):
        numbers = moved_on(numbers, tables[parameter >> at & 1])
    return total_of_rows(numbers, lasts_of(steps, ends))


def tally_below(steps, ends, parameter):
    """How many rows with a lesser parameter are taken, None of endlessly many."""
    tables = [targets_of(steps, 0), targets_of(steps, 1)]
    # The ways of all parameters with the digits so far, and those of the parameters with less in these digits.
    numbers = first_numbers(len(steps))
    below = [0 for _ in steps]
    for at in range(parameter.bit_length()):
        zeros = moved_on(numbers, tables[0])
        below = moved_on(below, tables[parameter >> at & 1])
        if parameter >> at & 1 == 1:
            below = [less + zero for less, zero in zip(below, zeros)]
        numbers = [zero + one for zero, one in zip(zeros, moved_on(numbers, tables[1]))]
    return total_of_rows(below, lasts_of(steps, ends))


def first_numbers(many):
    """1 for the state 0, 0 for the others."""
    return [1 if state == 0 else 0 for state in range(many)]
