"""Whether two machines take as many rows for each parameter, and papers that show it."""

from wholesay.asking import first_unfit, fits_alike
from wholesay.counting import endless, finite_part
from wholesay.errors import NoRow, TooGreat, Unlike
from wholesay.lines import is_weights
from wholesay.machines import need_machine
from wholesay.spans import Span
from wholesay.squares import weighed
from wholesay.tallies import first_numbers, lasts_of, moved_on, targets_of

MOST_STATES_COMPARED = 40
MOST_ITEMS = 40
MOST_IN_PAPER = (10 ** 50) ** 2


class Pair:
    """The finite parts of two machines side by side, and the first parameter that is endless in just one."""

    def __init__(self, first, second):
        need_machine(first)
        need_machine(second)
        parts = [finite_part(first), finite_part(second)]
        row, _ = first_unfit(endless(first), endless(second), fits_alike)
        self.lone = None if row is None else row[0]
        self.ahead = len(parts[0][1])
        self.many = self.ahead + len(parts[1][1])
        if self.many > MOST_STATES_COMPARED:
            raise TooGreat(MOST_STATES_COMPARED)
        behind = [[[self.ahead + target for target in targets] for targets in targets_of(parts[1][1], digit)]
                  for digit in range(2)]
        self.tables = [targets_of(parts[0][1], digit) + behind[digit] for digit in range(2)]
        # Weights by which a row of numbers makes the count of the first one less that of the second one.
        self.gaps = lasts_of(parts[0][1], parts[0][2]) + [-last for last in lasts_of(parts[1][1], parts[1][2])]
        self.start = first_numbers(self.ahead) + first_numbers(self.many - self.ahead)

    def words(self):
        """The rows of the digit words of which none is a combination of the rows of earlier ones."""
        span = Span()
        found = []
        level = [self.start] if span.put(self.start) else []
        while level:
            found.extend(level)
            # A word goes on behind one that counts, or is a combination of others that do as this one is.
            made = [moved_on(row, table) for table in self.tables for row in level]
            level = [row for row in made if span.put(row)]
        return found

    def is_alike(self, rows):
        """Whether both counts are equal for all of these rows."""
        return all([weighed(self.gaps, row) == 0 for row in rows])

    def first_gap(self):
        """The least parameter at which the finite counts are unlike, None if there is none."""
        levels = [[self.start]]
        while self.is_alike(levels[-1]):
            if len(levels) > self.many:
                return None
            levels.append(self.next_level(levels[-1]))
        number = 0
        gaps = self.gaps
        # The last digit counts most: it is 0 if some digits ahead of it still make a gap.
        for at in range(len(levels) - 2, -1, -1):
            zeros, ones = [[sum([gaps[target] for target in row]) for row in table] for table in self.tables]
            is_zero = any([weighed(zeros, row) != 0 for row in levels[at]])
            gaps = zeros if is_zero else ones
            number += 0 if is_zero else 1 << at
        return number

    def next_level(self, level):
        """Rows that span those of all words that are one digit longer."""
        span = Span()
        return [row for row in [moved_on(each, table) for table in self.tables for each in level] if span.put(row)]

    def least_apart(self):
        """The least parameter at which the counts are unlike, None if there is none."""
        found = [number for number in (self.lone, self.first_gap()) if number is not None]
        return min(found, default=None)


def counts_alike(first, second):
    """Whether both counts are equal for all parameters."""
    pair = Pair(first, second)
    return pair.lone is None and pair.is_alike(pair.words())


def first_count_apart(first, second):
    """The least parameter at which the counts are unlike."""
    found = Pair(first, second).least_apart()
    if found is None:
        raise NoRow()
    return found


def count_paper(first, second):
    """The paper of the rows of digit words, or Unlike with the least parameter at which the counts are unlike."""
    pair = Pair(first, second)
    words = pair.words()
    if pair.lone is not None or not pair.is_alike(words):
        raise Unlike(pair.least_apart())
    return tuple([tuple(row) for row in words])


def is_count_paper(first, second, paper):
    """Whether a value of any kind is a paper that all counts are alike."""
    pair = Pair(first, second)
    if not isinstance(paper, tuple) or len(paper) > MOST_ITEMS or pair.lone is not None:
        return False
    if not all([is_weights(row, pair.many) and is_in_bounds(row) for row in paper]):
        return False
    span = Span()
    for row in paper:
        span.put(row)
    made = [moved_on(row, table) for table in pair.tables for row in paper]
    return pair.is_alike(paper) and span.holds(pair.start) and all([span.holds(row) for row in made])


def is_in_bounds(row):
    """Whether no integer of the row is too great for a paper."""
    return all([abs(number) <= MOST_IN_PAPER for number in row])
