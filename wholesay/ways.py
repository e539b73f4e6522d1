"""The fewest deeds that lead from one marking to another one, and papers that none do."""

from wholesay.boards import need_marking, order, supports_from
from wholesay.errors import BadRow, NoRow, Unlike
from wholesay.kinds import is_row, is_tuple_of
from wholesay.reach import gains_of, need_few_tokens
from wholesay.solving import solved
from wholesay.unsolved import is_unsolved_paper, paper_for


def need_ends(board, first, last):
    """Check a board and two markings of it, none with a great number."""
    need_marking(board, first)
    if not is_row(last, board[0]):
        raise BadRow(last)
    need_few_tokens(first + last)


def meeting_of(board, first, last, support):
    """The equations of how often, beyond once, the deeds of a support are done that make one marking of another."""
    rows = [("eq", gains, one - other + sum(gains))
            for gains, one, other in zip(gains_of(board, support), first, last)]
    return (len(support), tuple(rows))


def counts_for(board, support, numbers):
    """The counts of all deeds, told how often those of a support are done beyond once."""
    found = [0 for _ in board[1]]
    for number, more in zip(support, numbers):
        found[number] = 1 + more
    return tuple(found)


def fewest_counts(board, first, last):
    """As fewest, unchecked, but None if there are none."""
    found = [(0, tuple([0 for _ in board[1]]))] if first == last else []
    for support in sorted(supports_from(board, first), key=len):
        for numbers in solved(meeting_of(board, first, last, support))[0]:
            counts = counts_for(board, support, numbers)
            found.append((sum(counts), counts))
    return min(found)[1] if found else None


def fewest(board, first, last):
    """Of all counts that can be done from one marking and come to another one the first of those with the fewest."""
    need_ends(board, first, last)
    counts = fewest_counts(board, first, last)
    if counts is None:
        raise NoRow()
    return counts


def way(board, first, last):
    """The order in which the fewest deeds lead from one marking to another one."""
    return order(board, first, fewest(board, first, last))


def no_way_paper(board, first, last):
    """A paper that no deeds lead from one marking to another one; Unlike of the fewest counts if some do."""
    need_ends(board, first, last)
    counts = fewest_counts(board, first, last)
    if counts is not None:
        raise Unlike(counts)
    met = [meeting_of(board, first, last, support) for support in supports_from(board, first)]
    return tuple([paper_for(count, rows) for count, rows in met])


def is_no_way_paper(board, first, last, paper):
    """Whether a value of any kind is a paper that no deeds lead from one marking to another one."""
    need_ends(board, first, last)
    met = [meeting_of(board, first, last, support) for support in supports_from(board, first)]
    if first == last or not is_tuple_of(paper, len(met)):
        return False
    return all([is_unsolved_paper(equations, each) for equations, each in zip(met, paper)])
