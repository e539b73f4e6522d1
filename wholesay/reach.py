"""The sets of the markings that deeds lead to, or from, and of all pairs of a first and a last marking."""

from wholesay.boards import are_fed, deeds_in, gain_of, need_board, need_marking, sets_of, supports_from
from wholesay.conditions import change_of, value_of
from wholesay.errors import TooGreat, Unlike
from wholesay.lines import set_with, unlike_periods
from wholesay.solving import solved
from wholesay.squares import added

MOST_TOKENS = 100
MOST_PAIRED = 2


def need_few_tokens(marking):
    """TooGreat of a marking with a great number."""
    if max(marking) > MOST_TOKENS:
        raise TooGreat(MOST_TOKENS)


def gains_of(board, support):
    """For each place the tuple of what each deed of a support adds there."""
    gains = [gain_of(deed) for deed in deeds_in(board, support)]
    return list(zip(*gains))


def starts_of(board, support):
    """The list of the sets of places that are enough for a support, and of which no proper subset is."""
    places = sets_of(board[0])
    deeds = deeds_in(board, support)
    enough = [spots for spots in places if are_fed(deeds, marks_at(board, spots))]
    return [spots for spots in enough if not any([is_proper_part(other, spots) for other in enough])]


def marks_at(board, spots):
    """The marking with one token at each of some places."""
    return tuple([1 if place in spots else 0 for place in range(board[0])])


def is_proper_part(other, spots):
    """Whether one ascending tuple of places has some, but not all, of another one and no more."""
    return len(other) < len(spots) and all([place in spots for place in other])


def lines_by(count, rows, ahead, more):
    """The lines of equations: of a solution the first numbers and the values, in a base with some more."""
    least, ground = solved((count, rows))
    bases = [numbers[:ahead] + tuple([value_of(row, numbers) for row in rows]) for numbers in least]
    steps = [numbers[:ahead] + tuple([change_of(row, numbers) for row in rows]) for numbers in ground]
    periods = unlike_periods(steps)
    return [(added(base, more, 1), periods) for base in bases]


def reached(board, marking):
    """The set of all markings to which deeds lead from a marking."""
    need_marking(board, marking)
    need_few_tokens(marking)
    lines = [(marking, ())]
    # Small supports are soon done with, and may show that there is too much; the set does not tell their order.
    for support in sorted(supports_from(board, marking), key=len):
        rows = [("ge", gains, number + sum(gains)) for gains, number in zip(gains_of(board, support), marking)]
        lines.extend(lines_by(len(support), tuple(rows), 0, marks_at(board, ())))
    return set_with(board[0], lines)


def started_supports(board):
    """The list of the pairs of a support and a set of places that is just enough for it, small supports first."""
    found = []
    for support in sorted(sets_of(len(board[1])), key=len):
        if support:
            found.extend([(support, spots) for spots in starts_of(board, support)])
    return found


def back(board, marking):
    """The set of all markings from which deeds lead to a marking."""
    need_marking(board, marking)
    need_few_tokens(marking)
    lines = [(marking, ())]
    for support, spots in started_supports(board):
        ones = marks_at(board, spots)
        # What the unknown tokens must be is what the deeds leave of the marking, as much as of the ones at the places.
        rows = [("ge", tuple([-gain for gain in gains]), number - one - sum(gains))
                for gains, number, one in zip(gains_of(board, support), marking, ones)]
        lines.extend(lines_by(len(support), tuple(rows), 0, ones))
    return set_with(board[0], lines)


def pairs(board):
    """The set of all rows of a first marking and, behind it, a marking to which deeds lead from it."""
    many = need_board(board)[0]
    if many > MOST_PAIRED:
        raise Unlike(many)
    units = [marks_at(board, (place,)) for place in range(many)]
    lines = [(tuple([0 for _ in range(2 * many)]), tuple([unit + unit for unit in units]))]
    for support, spots in started_supports(board):
        ones = marks_at(board, spots)
        rows = [("ge", unit + gains, one + sum(gains))
                for unit, gains, one in zip(units, gains_of(board, support), ones)]
        lines.extend(lines_by(many + len(support), tuple(rows), many, ones + marks_at(board, ())))
    return set_with(2 * many, lines)


def unbounded(board, marking):
    """The ascending tuple of the places at which markings that are reached have as many tokens as one likes."""
    many, lines = reached(board, marking)
    return tuple([place for place in range(many)
                  if any([period[place] > 0 for _, periods in lines for period in periods])])
