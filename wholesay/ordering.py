"""Sets put in order: the same rows by independent lines, none within another one; nothing is checked here."""

from math import gcd

from wholesay.errors import TooGreat
from wholesay.kinds import MOST_FACTOR
from wholesay.lines import MOST_LINES
from wholesay.squares import added, square_of, turns_of, weighed


def tie_of(many, periods):
    """None of independent periods, else the integers by which the first dependent ones add up to zeros."""
    if square_of(many, periods) is not None:
        return None
    count = 1
    while square_of(many, periods[:count + 1]) is not None:
        count += 1
    _, size, weights = square_of(many, periods[:count])
    tie = [-weighed(each, periods[count]) for each in weights] + [size]
    common = 0
    for number in tie:
        common = gcd(common, number)
    return [number // common for number in tie]


def side_of(tie):
    """The pairs (J, how many lines) of the lesser side of a tie."""
    above = [(at, number) for at, number in enumerate(tie) if number > 0]
    below = [(at, -number) for at, number in enumerate(tie) if number < 0]
    return above if total_of(above) <= total_of(below) else below


def total_of(side):
    """How many lines come of a side."""
    return sum([number for _, number in side])


def cut(line, side):
    """The lines that come in the place of a line, by the side of its tie."""
    base, periods = line
    made = []
    for at, number in side:
        for times in range(number):
            made.append((added(base, periods[at], times), periods[:at] + periods[at + 1:]))
    return made


def next_round(lines, ties):
    """The lines behind a round; ties has None for each independent line."""
    sides = [None if tie is None else side_of(tie) for tie in ties]
    if sum([1 if side is None else total_of(side) for side in sides]) > MOST_LINES:
        raise TooGreat(MOST_LINES)
    made = []
    for line, side in zip(lines, sides):
        made.extend([line] if side is None else cut(line, side))
    if any([max(base) > MOST_FACTOR for base, _ in made]):
        raise TooGreat(MOST_FACTOR)
    return sorted(set(made))


def is_inside(line, other, square):
    """Whether a line lies within another one that is independent, told with its square."""
    base, periods = other
    if any([number < less for number, less in zip(line[0], base)]) or turns_of(other, square, line[0]) is None:
        return False
    level = (tuple([0 for _ in base]), periods)
    return all([turns_of(level, square, period) is not None for period in line[1]])


def inner_lines(many, lines):
    """The numbers of the independent lines that lie within another one."""
    squares = [square_of(many, periods) for _, periods in lines]
    found = []
    for at, line in enumerate(lines):
        if any([is_inside(line, other, squares[number]) for number, other in enumerate(lines) if number != at]):
            found.append(at)
    return found


def put_in_order(value):
    """As ordered, unchecked."""
    many, lines = value
    ties = [tie_of(many, periods) for _, periods in lines]
    while any([tie is not None for tie in ties]):
        lines = next_round(lines, ties)
        ties = [tie_of(many, periods) for _, periods in lines]
    within = inner_lines(many, lines)
    return (many, tuple([line for at, line in enumerate(lines) if at not in within]))
