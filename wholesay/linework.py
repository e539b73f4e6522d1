"""Work on sets: what rows they have, sets in order, and sets made of sets."""

from wholesay.conditions import MOST_CONST, MOST_WEIGHT
from wholesay.errors import BadParameter, BadWidth, TooGreat
from wholesay.kinds import MOST_FACTOR, are_between, is_between
from wholesay.lines import MOST_LINES, MOST_PERIODS, need_row_of, need_set, need_two_sets, set_with, unlike_periods
from wholesay.ordering import inner_lines, put_in_order
from wholesay.solving import solved
from wholesay.squares import added, row_at, square_of, turns_of

MOST_STARRED = 8
MOST_TIMES = 1000
MOST_TO = 60
MOST_ROWS = 2000


def has(value, row):
    """Whether the set has the row."""
    need_set(value)
    need_row_of(value, row)
    many, lines = put_in_order(value)
    return any([turns_of(line, square_of(many, line[1]), row) is not None for line in lines])


def ordered(value):
    """A free set with the same rows in which no line lies within another one."""
    return put_in_order(need_set(value))


def is_ordered(value):
    """Whether the set is free and no line lies within another one."""
    many, lines = need_set(value)
    if any([square_of(many, periods) is None for _, periods in lines]):
        return False
    return not inner_lines(many, lines)


def union(one, other):
    """The set of the rows of both."""
    need_two_sets(one, other)
    return set_with(one[0], one[1] + other[1])


def need_line(base, periods):
    """The line, or TooGreat of a great number in the base, of too many periods."""
    if max(base) > MOST_FACTOR:
        raise TooGreat(MOST_FACTOR)
    if len(unlike_periods(periods)) > MOST_PERIODS:
        raise TooGreat(MOST_PERIODS)
    return (base, periods)


def sum_of(one, other):
    """The set of all sums of a row of one and a row of the other."""
    need_two_sets(one, other)
    if len(one[1]) * len(other[1]) > MOST_LINES:
        raise TooGreat(MOST_LINES)
    made = []
    for base, periods in one[1]:
        for other_base, other_periods in other[1]:
            made.append(need_line(added(base, other_base, 1), periods + other_periods))
    return set_with(one[0], made)


def star(value):
    """The set of all sums of any number of rows of the set."""
    many, lines = need_set(value)
    if len(lines) > MOST_STARRED:
        # More lines would make more choices than a set may have lines.
        raise TooGreat(MOST_LINES)
    zeros = tuple([0 for _ in range(many)])
    made = [(zeros, ())]
    for choice in choices_among(len(lines)):
        base = zeros
        periods = ()
        for at in choice:
            base = added(base, lines[at][0], 1)
            periods = periods + lines[at][1] + (lines[at][0],)
        made.append(need_line(base, periods))
    return set_with(many, made)


def choices_among(count):
    """The ascending tuples of one or more numbers below `count`, in their order."""
    found = []
    for bits in range(1, 1 << count):
        found.append(tuple([at for at in range(count) if bits >> at & 1 == 1]))
    return sorted(found)


def times(value, factor):
    """The set of the rows with all numbers times the factor."""
    many, lines = need_set(value)
    if not is_between(factor, 0, MOST_TIMES):
        raise BadParameter(factor)
    zeros = tuple([0 for _ in range(many)])
    made = [(added(zeros, base, factor), tuple([added(zeros, period, factor) for period in periods]))
            for base, periods in lines]
    if any([max(row) > MOST_FACTOR for base, periods in made for row in (base,) + periods]):
        raise TooGreat(MOST_FACTOR)
    return set_with(many, made)


def rearranged(value, places):
    """The set of the rows with the numbers at these places, one behind the other."""
    many, lines = need_set(value)
    if not are_between(places, 0, many - 1) or not 1 <= len(places) <= 4:
        raise BadParameter(places)
    return set_with(len(places), [(at_places(base, places), tuple([at_places(period, places) for period in periods]))
                                  for base, periods in lines])


def at_places(row, places):
    """The numbers of a row at these places."""
    return tuple([row[place] for place in places])


def widened(value):
    """The set of the rows with any number put behind."""
    many, lines = need_set(value)
    if many == 4:
        raise BadWidth(5)
    last = tuple([0 for _ in range(many)]) + (1,)
    return set_with(many + 1, [(base + (0,), tuple([period + (0,) for period in periods]) + (last,))
                               for base, periods in lines])


def common(one, other):
    """The set of the rows that both have."""
    need_two_sets(one, other)
    made = []
    for line in one[1]:
        for other_line in other[1]:
            made.extend(common_lines(line, other_line))
    if any([max(row) > MOST_FACTOR for base, periods in made for row in (base,) + periods]):
        raise TooGreat(MOST_FACTOR)
    return set_with(one[0], made)


def common_lines(line, other):
    """The lines of the rows that two lines have."""
    if not line[1] and not other[1]:
        return [line] if line == other else []
    ahead = len(line[1])
    least, ground = solved(meeting(line, other))
    level = (tuple([0 for _ in line[0]]), line[1])
    periods = tuple([row_at(level, turned[:ahead]) for turned in ground])
    return [(row_at(line, turned[:ahead]), periods) for turned in least]


def meeting(line, other):
    """The equations of how often the periods of two lines are added where both make the same row; TooGreat."""
    periods = line[1] + other[1]
    if len(periods) > MOST_PERIODS:
        raise TooGreat(MOST_PERIODS)
    if max([max(period) for period in periods]) > MOST_WEIGHT:
        raise TooGreat(MOST_WEIGHT)
    gap = added(line[0], other[0], -1)
    if max([abs(number) for number in gap]) > MOST_CONST:
        raise TooGreat(MOST_CONST)
    rows = []
    for place, number in enumerate(gap):
        factors = [period[place] for period in line[1]] + [-period[place] for period in other[1]]
        rows.append(("eq", tuple(factors), number))
    return (len(periods), tuple(rows))


def rows_to(value, most):
    """All rows of the set whose numbers are at most `most`, ascending."""
    need_set(value)
    if not is_between(most, 0, MOST_TO):
        raise BadParameter(most)
    found = {}
    for line in put_in_order(value)[1]:
        for row in rows_of_line(line, most):
            found[row] = True
        if len(found) > MOST_ROWS:
            raise TooGreat(MOST_ROWS)
    return tuple(sorted(found))


def rows_of_line(line, most):
    """The rows of an independent line whose numbers are at most `most`; TooGreat if they are too many."""
    base, periods = line
    found = [base] if max(base) <= most else []
    for period in periods:
        made = []
        for row in found:
            while max(row) <= most:
                made.append(row)
                row = added(row, period, 1)
            # Independent periods make each row in one way only, so none of them is counted twice.
            if len(made) > MOST_ROWS:
                raise TooGreat(MOST_ROWS)
        found = made
    return found
