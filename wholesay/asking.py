"""Questions about all rows that machines take, and papers that show the answers."""

from wholesay.errors import NoRow, Unlike
from wholesay.kinds import is_between, is_tuple_of
from wholesay.machines import MOST_PAIRS, least, need_machine, need_two, no_rows
from wholesay.working import pairs_of, same_columns


def levels_to_end(steps, ends):
    """The list of the lists of states that one column more leads to first, up to the first list with an end."""
    levels = [[0]]
    seen = {0: True}
    while levels[-1] and not any([ends[state] for state in levels[-1]]):
        level = []
        for state in levels[-1]:
            for target in steps[state]:
                if target not in seen:
                    seen[target] = True
                    level.append(target)
        levels.append(level)
    return levels


def longer(row, column):
    """The row with one column more ahead of all others."""
    return tuple([2 * number + (column >> place & 1) for place, number in enumerate(row)])


def first_taken(many, steps, ends):
    """Of the rows with the fewest columns that lead from 0 to an end the least one, None if there is none."""
    levels = levels_to_end(steps, ends)
    # Each of the fewest columns leads one level further, so a row that is not least behind one is not least at all.
    rows = {state: tuple([0 for _ in range(many)]) for state in levels[-1] if ends[state]}
    for level in reversed(levels[:-1]):
        nearer = rows
        rows = {}
        for state in level:
            found = [longer(nearer[to], column) for column, to in enumerate(steps[state]) if to in nearer]
            if found:
                rows[state] = min(found)
    return rows.get(0, None)


def is_none(machine):
    """Whether the machine takes no row."""
    need_machine(machine)
    return first_taken(machine[0], machine[1], machine[2]) is None


def first_row(machine):
    """Of the rows with the fewest columns that the machine takes the least one."""
    need_machine(machine)
    row = first_taken(machine[0], machine[1], machine[2])
    if row is None:
        raise NoRow()
    return row


def first_unfit(first, second, fits, most=MOST_PAIRS):
    """The first row whose ends in both machines do not fit, None if there is none; and the pairs come to."""
    columns = same_columns(first[0])
    pairs, steps = pairs_of(first[1:], second[1:], columns, most)
    row = first_taken(first[0], steps, [not fits(first[2][one], second[2][other]) for one, other in pairs])
    return row, pairs


def fits_within(one, other):
    """Whether the second one is an end if the first one is."""
    return other or not one


def fits_alike(one, other):
    """Whether both are ends, or none."""
    return one == other


def is_within(first, second):
    """Whether each row that the first one takes is taken by the second one."""
    need_two(first, second)
    row, _ = first_unfit(least(first), least(second), fits_within)
    return row is None


def alike(first, second):
    """Whether both take the same rows."""
    need_two(first, second)
    return least(first) == least(second)


def first_apart(first, second):
    """The first row that just one of them takes."""
    need_two(first, second)
    row, _ = first_unfit(least(first), least(second), fits_alike)
    if row is None:
        raise NoRow()
    return row


def paper_of(first, second, fits):
    """The ascending tuple of the pairs of states that are come to, or Unlike with the first row that does not fit."""
    row, pairs = first_unfit(first, second, fits)
    if row is not None:
        raise Unlike(row)
    return tuple(sorted(pairs))


def is_pair_in(value, first, second):
    """Whether a value of any kind is a pair of a state of each machine."""
    if not is_tuple_of(value, 2):
        return False
    return is_between(value[0], 0, len(first[1]) - 1) and is_between(value[1], 0, len(second[1]) - 1)


def is_paper(first, second, paper, fits):
    """Whether a value of any kind is a paper of pairs that fit."""
    if not isinstance(paper, tuple) or not all([is_pair_in(pair, first, second) for pair in paper]):
        return False
    pairs = {pair: True for pair in paper}
    if (0, 0) not in pairs:
        return False
    for one, other in pairs:
        if not fits(first[2][one], second[2][other]):
            return False
        if not all([pair in pairs for pair in zip(first[1][one], second[1][other])]):
            return False
    return True


def none_paper(machine):
    """The least paper that the machine takes no row."""
    need_machine(machine)
    pairs = paper_of(machine, no_rows(machine[0]), fits_within)
    return tuple([state for state, _ in pairs])


def is_none_paper(machine, paper):
    """Whether it is a paper that the machine takes no row."""
    need_machine(machine)
    if not isinstance(paper, tuple):
        return False
    return is_paper(machine, no_rows(machine[0]), tuple([(state, 0) for state in paper]), fits_within)


def within_paper(first, second):
    """The least paper that each row that the first one takes is taken by the second one."""
    need_two(first, second)
    return paper_of(first, second, fits_within)


def is_within_paper(first, second, paper):
    """Whether it is a paper that each row that the first one takes is taken by the second one."""
    need_two(first, second)
    return is_paper(first, second, paper, fits_within)


def alike_paper(first, second):
    """The least paper that both take the same rows."""
    need_two(first, second)
    return paper_of(first, second, fits_alike)


def is_alike_paper(first, second, paper):
    """Whether it is a paper that both take the same rows."""
    need_two(first, second)
    return is_paper(first, second, paper, fits_alike)
