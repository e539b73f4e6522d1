"""Boards: their checks, deeds done one by one, and whether deeds can be done so often in some order."""

from wholesay.errors import BadBoard, BadDeed, BadIndex, BadRow, NoRow, TooGreat
from wholesay.kinds import are_between, is_between, is_row, is_tuple_of
from wholesay.squares import added

MOST_DEEDS = 6
MOST_PUT = 9
MOST_WALKED = 400


def is_deed(value, many):
    """Whether it is a deed of a board with that many places."""
    if not is_tuple_of(value, 2) or not is_tuple_of(value[1], many) or not are_between(value[1], 0, MOST_PUT):
        return False
    return value[0] is None or is_between(value[0], 0, many - 1)


def need_board(value):
    """The board, or BadBoard of the first place that is not as told."""
    if not is_tuple_of(value, 2):
        raise BadBoard(())
    many, deeds = value
    if not is_between(many, 1, 4):
        raise BadBoard((0,))
    if not isinstance(deeds, tuple) or not 1 <= len(deeds) <= MOST_DEEDS:
        raise BadBoard((1,))
    for at, deed in enumerate(deeds):
        if not is_deed(deed, many):
            raise BadBoard((1, at))
    return value


def need_marking(board, marking):
    """Check a board and a marking of it."""
    need_board(board)
    if not is_row(marking, board[0]):
        raise BadRow(marking)


def gain_of(deed):
    """What a deed adds to a marking, place by place."""
    taken, put = deed
    return tuple([number - 1 if place == taken else number for place, number in enumerate(put)])


def can_be_done(marking, deed):
    """Whether a deed can be done at a marking."""
    return deed[0] is None or marking[deed[0]] > 0


def done(board, marking, deed):
    """The marking behind the deed with this number."""
    need_marking(board, marking)
    if not is_between(deed, 0, len(board[1]) - 1):
        raise BadIndex(deed)
    if not can_be_done(marking, board[1][deed]):
        raise NoRow()
    return added(marking, gain_of(board[1][deed]), 1)


def walked(board, marking, deeds):
    """The last marking behind deeds done in turn."""
    need_marking(board, marking)
    if not isinstance(deeds, tuple):
        raise BadDeed(0)
    if len(deeds) > MOST_WALKED:
        raise TooGreat(MOST_WALKED)
    for at, number in enumerate(deeds):
        if not is_between(number, 0, len(board[1]) - 1) or not can_be_done(marking, board[1][number]):
            raise BadDeed(at)
        marking = added(marking, gain_of(board[1][number]), 1)
    return marking


def fed_places(deeds, marking):
    """The list that tells which places are fed if all of these deeds are needed."""
    fed = [number > 0 for number in marking]
    grown = True
    while grown:
        grown = False
        for taken, put in deeds:
            if taken is None or fed[taken]:
                for place, number in enumerate(put):
                    if number > 0 and not fed[place]:
                        fed[place] = True
                        grown = True
    return fed


def are_fed(deeds, marking):
    """Whether each of these deeds, all needed, takes nothing or takes from a fed place."""
    fed = fed_places(deeds, marking)
    return all([taken is None or fed[taken] for taken, _ in deeds])


def are_joined(deeds, marking, counts):
    """Whether counts of the deeds are connected from a marking."""
    return are_fed([deed for deed, count in zip(deeds, counts) if count > 0], marking)


def come_to(deeds, marking, counts):
    """What a marking and counts of the deeds come to; numbers may be below 0."""
    for deed, count in zip(deeds, counts):
        marking = added(marking, gain_of(deed), count)
    return marking


def can_count(board, marking, counts):
    """Whether the deeds can be done just so often, in some order."""
    need_marking(board, marking)
    deeds = board[1]
    if not is_row(counts, len(deeds)):
        raise BadRow(counts)
    return are_joined(deeds, marking, counts) and min(come_to(deeds, marking, counts)) >= 0


def order(board, marking, counts):
    """An order of so many deeds: at each step the first one behind which those that are left can be done."""
    if not can_count(board, marking, counts):
        raise NoRow()
    if sum(counts) > MOST_WALKED:
        raise TooGreat(MOST_WALKED)
    found = []
    left = counts
    for _ in range(sum(counts)):
        number = next_deed(board[1], marking, left)
        found.append(number)
        marking = added(marking, gain_of(board[1][number]), 1)
        left = one_less(left, number)
    return tuple(found)


def one_less(counts, number):
    """The counts with one less of the deed with this number."""
    return counts[:number] + (counts[number] - 1,) + counts[number + 1:]


def next_deed(deeds, marking, left):
    """The number of the first deed that can be done so that the counts left stay connected."""
    for number, deed in enumerate(deeds):
        if left[number] > 0 and can_be_done(marking, deed):
            if are_joined(deeds, added(marking, gain_of(deed), 1), one_less(left, number)):
                return number
    return None


def sets_of(many):
    """All ascending tuples of numbers below `many`, the empty one too, ascending."""
    found = [()]
    for number in range(many):
        found = found + [each + (number,) for each in found]
    return sorted(found)


def deeds_in(board, support):
    """The list of the deeds of a support."""
    return [board[1][number] for number in support]


def supports_from(board, marking):
    """As supports, unchecked."""
    return tuple([each for each in sets_of(len(board[1])) if each and are_fed(deeds_in(board, each), marking)])


def supports(board, marking):
    """The ascending tuple of all supports that are connected from a marking."""
    need_marking(board, marking)
    return supports_from(board, marking)
