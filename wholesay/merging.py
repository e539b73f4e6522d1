"""Unknowns that stand in all conditions alike: one of them is solved for, and its number is shared out among them."""

from math import comb

from wholesay.errors import TooGreat


def alike_unknowns(count, rows):
    """The list of the lists of unknowns that have the same factors in all conditions."""
    groups = {}
    for unknown in range(count):
        groups.setdefault(tuple([row[-2][unknown] for row in rows]), []).append(unknown)
    return list(groups.values())


def merged_rows(rows, groups):
    """The conditions with one unknown for each group."""
    return tuple([row[:-2] + (tuple([row[-2][group[0]] for group in groups]), row[-1]) for row in rows])


def how_many_shares(numbers, groups):
    """In how many ways the numbers can be shared out among the unknowns of each group."""
    found = 1
    for number, group in zip(numbers, groups):
        found *= comb(number + len(group) - 1, len(group) - 1)
    return found


def need_few_shares(solutions, groups, most):
    """TooGreat if solutions, shared out, are too many."""
    if sum([how_many_shares(numbers, groups) for numbers in solutions]) > most:
        raise TooGreat(most)


def shared_out(count, solutions, groups):
    """The ascending tuple of all solutions that share out the numbers of these."""
    found = []
    for numbers in solutions:
        made = [[0 for _ in range(count)]]
        for number, group in zip(numbers, groups):
            made = [with_share(row, group, share) for row in made for share in shares_of(number, len(group))]
        found.extend([tuple(row) for row in made])
    return tuple(sorted(found))


def with_share(row, group, share):
    """The row with these numbers at the unknowns of a group."""
    found = list(row)
    for unknown, number in zip(group, share):
        found[unknown] = number
    return found


def shares_of(number, many):
    """All lists of that many numbers that are together the number."""
    if many == 1:
        return [[number]]
    return [[one] + rest for one in range(number + 1) for rest in shares_of(number - one, many - 1)]
