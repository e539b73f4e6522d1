"""Sets: their checks, how they are made, the turns of their rows, and bars for the rows that they do not have."""

from wholesay.errors import BadIndex, BadRow, BadSet, TooGreat, Unlike
from wholesay.kinds import MOST_FACTOR, are_between, is_between, is_integer, is_row, is_tuple_of
from wholesay.squares import added, apart_at, square_of, turns_of, weighed
from wholesay.terms import need_many

MOST_PERIODS = 12
MOST_LINES = 400


def is_entry(value, many):
    """Whether it may be a base of the width."""
    return is_tuple_of(value, many) and are_between(value, 0, MOST_FACTOR)


def is_line(value, many):
    """Whether it is a line of the width."""
    if not is_tuple_of(value, 2) or not is_entry(value[0], many) or not isinstance(value[1], tuple):
        return False
    periods = value[1]
    if len(periods) > MOST_PERIODS or not all([is_entry(period, many) and any(period) for period in periods]):
        return False
    return all([periods[at] < periods[at + 1] for at in range(len(periods) - 1)])


def need_set(value):
    """The set, or BadSet, TooGreat of the first thing that is not as told."""
    if not is_tuple_of(value, 2) or not is_between(value[0], 1, 4) or not isinstance(value[1], tuple):
        raise BadSet(0)
    many, lines = value
    if len(lines) > MOST_LINES:
        raise TooGreat(MOST_LINES)
    for at, line in enumerate(lines):
        if not is_line(line, many) or (at > 0 and line <= lines[at - 1]):
            raise BadSet(at + 1)
    return value


def need_two_sets(one, other):
    """Check two sets, which must have one width: else Unlike."""
    need_set(one)
    need_set(other)
    if one[0] != other[0]:
        raise Unlike(other)


def is_bare_line(value, many):
    """Whether it is a pair of a base and a tuple of rows, which a line is made of."""
    if not is_tuple_of(value, 2) or not is_entry(value[0], many) or not isinstance(value[1], tuple):
        return False
    return all([is_entry(row, many) for row in value[1]])


def made_set(many, lines):
    """The set of lines told in any order, rows of zeros and doubles left out."""
    need_many(many)
    if not isinstance(lines, tuple):
        raise BadSet(0)
    for at, line in enumerate(lines):
        if not is_bare_line(line, many):
            raise BadSet(at + 1)
    return set_with(many, lines)


def unlike_periods(rows):
    """The rows ascending, each once, without zeros."""
    return tuple([row for row in sorted(set(rows)) if any(row)])


def set_with(many, lines):
    """As made_set, of any number of lines that are as told."""
    found = [(base, unlike_periods(rows)) for base, rows in lines]
    if any([len(periods) > MOST_PERIODS for _, periods in found]):
        raise TooGreat(MOST_PERIODS)
    found = sorted(set(found))
    if len(found) > MOST_LINES:
        raise TooGreat(MOST_LINES)
    return (many, tuple(found))


def need_row_of(value, row):
    """Check that it is a row of the width of a set."""
    if not is_row(row, value[0]):
        raise BadRow(row)


def need_free(value):
    """The squares of all lines, or BadSet of the first line that is not independent."""
    need_set(value)
    squares = [square_of(value[0], periods) for _, periods in value[1]]
    for at, square in enumerate(squares):
        if square is None:
            raise BadSet(at + 1)
    return squares


def turns(value, row):
    """(K, TURNS) of the first line of a free set that has the row, else None."""
    squares = need_free(value)
    need_row_of(value, row)
    for at, square in enumerate(squares):
        turned = turns_of(value[1][at], square, row)
        if turned is not None:
            return (at, turned)
    return None


def bars(value, row):
    """None if a free set has the row, else a tuple with a bar for each line."""
    squares = need_free(value)
    need_row_of(value, row)
    found = [bar_of(value[0], line, square, row) for line, square in zip(value[1], squares)]
    if any([bar is None for bar in found]):
        return None
    return tuple(found)


def bar_of(many, line, square, row):
    """A bar of an independent line for a row, None if it has the row."""
    base, periods = line
    places, size, weights = square
    gap = added(row, base, -1)
    for place in range(many):
        if place not in places:
            apart = apart_at(many, periods, square, place)
            if weighed(apart, gap) != 0:
                return ("apart", apart)
    for each in weights:
        if weighed(each, gap) % size != 0:
            return ("rest", size, each)
    for each in weights:
        if weighed(each, gap) < 0:
            return ("less", each)
    return None


def is_bar(value, place, row, bar):
    """Whether a value of any kind is a bar of one line of a set for a row."""
    need_set(value)
    if not is_between(place, 0, len(value[1]) - 1):
        raise BadIndex(place)
    need_row_of(value, row)
    if not isinstance(bar, tuple) or not bar or not isinstance(bar[0], str) or not is_weights(bar[-1], value[0]):
        return False
    base, periods = value[1][place]
    sums = [weighed(bar[-1], period) for period in periods]
    rest = weighed(bar[-1], added(row, base, -1))
    if bar[0] == "rest" and len(bar) == 3 and is_integer(bar[1]) and bar[1] >= 2:
        return rest % bar[1] != 0 and all([each % bar[1] == 0 for each in sums])
    if bar[0] == "apart" and len(bar) == 2:
        return rest != 0 and not any(sums)
    return bar[0] == "less" and len(bar) == 2 and rest < 0 and all([each >= 0 for each in sums])


def is_weights(value, many):
    """Whether it is a tuple of that many integers of any size."""
    return is_tuple_of(value, many) and all([is_integer(weight) for weight in value])
