"""Rows that are no sums of others, found when one more of their numbers must not be below 0.

The rows are those of a lattice whose numbers at some places, the done ones, are from 0 on. Given the rows of which all
are sums, it is told of which ones those are sums that have a number from 0 on at the new place, too. Sums of two rows
with unlike signs there are looked at by levels, the level of a row being the sum of its numbers at the done places: so
whatever a row may be a sum of is known ahead of it. Where the lattice has a row with zeros at the done places, the
step, numbers at the new place are kept beneath its own.
"""

from heapq import heappop, heappush

from wholesay.errors import TooGreat
from wholesay.lone import lone_rows
from wholesay.squares import added

MOST_FOUND = 400
MOST_LIKELY = 16


class Side:
    """The rows found with one sign at the place: (LEVEL, KEY, NUMBER, ROW, MOTHER), levels ascending.

    NUMBER is that at the place, without its sign. MOTHER is the one of the row of this side of which a sum was made,
    0 if the row is no such sum.
    """

    def __init__(self, guards):
        self.guards = guards
        self.rows = []
        # The keys that were the last ones to show sums, as these often show the next one.
        self.likely = []

    def is_under(self, key, level):
        """Whether one of the rows is nowhere greater than a row with this key."""
        guards = self.guards
        key = key | guards
        at = first_under(self.likely, key, guards)
        if at is not None:
            self.likely = [self.likely[at]] + self.likely[:at] + self.likely[at + 1:]
            return True
        for row in self.rows:
            # Of the rows that a sum is made of one has half its level at most.
            if 2 * row[0] > level:
                return False
            if (key - row[1]) & guards == guards:
                self.likely = [row[1]] + self.likely[:MOST_LIKELY - 1]
                return True
        return False


def first_under(keys, key, guards):
    """The index of the first of some keys whose numbers are nowhere greater than those of one with its guards set."""
    for at, other in enumerate(keys):
        if (key - other) & guards == guards:
            return at
    return None


class Lifting:
    """The work at one place. `tops` has the greatest number that may stay in the end, for some of the done places.

    The key of a row packs its numbers at the done places and, without its sign, that at the place, side by side in one
    integer; above each of them one bit, the guard, stays free, so that all are compared by one difference.
    """

    def __init__(self, rows, step, done, place, tops):
        self.done = done
        self.place = place
        self.step = step
        self.width = width_for(rows if step is None else rows + [step], done, place)
        self.shift = self.width * len(done)
        self.guards = sum([1 << (self.width * (at + 1) - 1) for at in range(len(done) + 1)])
        most = (1 << (self.width - 1)) - 1
        self.tops = self.guards | self.packed([min(most, tops.get(each, most)) for each in done], most)
        self.above = Side(self.guards)
        self.middle = Side(self.guards)
        self.below = Side(self.guards)
        self.waiting = {}
        self.queue = []
        self.limits = tops
        self.left = None
        self.unit = None
        self.filled = []
        self.counted = 0
        for row in rows:
            self.offer(row, self.key(row), sum([row[each] for each in done]), 0)

    def packed(self, numbers, last):
        """The key of these numbers at the done places and the last one at the place."""
        found = last
        for number in reversed(numbers):
            found = found << self.width | number
        return found

    def key(self, row):
        """The key of a row."""
        return self.packed([row[each] for each in self.done], abs(row[self.place]))

    def side(self, number):
        """The side with the sign of a number."""
        if number == 0:
            return self.middle
        return self.above if number > 0 else self.below

    def may_stay(self, key):
        """Whether no number of a row, and so of any sum with it, is above its top."""
        return (self.tops - key) & self.guards == self.guards

    def is_sum(self, key, level, number):
        """Whether a row with this key, and this number at the place, is a sum of others of its own side."""
        if self.middle.is_under(key, level):
            return True
        return number != 0 and self.side(number).is_under(key, level)

    def offer(self, row, key, level, mother):
        """Let a row that is no sum be kept in its turn."""
        if level not in self.waiting:
            self.waiting[level] = {}
            heappush(self.queue, level)
        self.waiting[level][row] = (key, mother)

    def settle(self, level):
        """Keep all rows of one level. Only then let their sums wait: all that may show these to be sums is known."""
        told = self.waiting.pop(level)
        starts = (len(self.above.rows), len(self.below.rows))
        for row in told:
            key, mother = told[row]
            self.keep(row, key, level, mother)
            twin = self.twin(row)
            if twin is not None and twin not in told and not self.is_sum(self.key(twin), level, twin[self.place]):
                self.keep(twin, self.key(twin), level, 0)
        for one in self.above.rows[starts[0]:]:
            for other in self.below.rows:
                self.match(one, other)
        for other in self.below.rows[starts[1]:]:
            for one in self.above.rows[:starts[0]]:
                self.match(one, other)

    def twin(self, row):
        """The row on the other side of the step, None if there is none."""
        number = row[self.place]
        if self.step is None or number == 0:
            return None
        return added(row, self.step, -1 if number > 0 else 1)

    def keep(self, row, key, level, mother):
        """Keep a row; TooGreat of too many that stay whatever comes at the places that are left."""
        number = row[self.place]
        self.side(number).rows.append((level, key, abs(number), row, mother))
        if number >= 0:
            self.reckon(row)
        elif self.unit is not None:
            row = added(row, self.unit, -number)
            if is_within(row, self.done, self.limits):
                self.filled.append(row)
                self.reckon(row)

    def reckon(self, row):
        """Count a row, from 0 on at the place, if it stays."""
        if self.left is not None and all([row[each] >= 0 for each in self.left]):
            self.counted += 1
            if self.counted > MOST_FOUND:
                raise TooGreat(MOST_FOUND)

    def match(self, one, other):
        """Let the sum of a row above and a row below wait, if it may stay and is no sum of others.

        A row whose mother brings the other one to its own side makes sums of rows of one side only.
        """
        if 0 < one[4] <= other[2] or 0 < other[4] <= one[2]:
            return
        number = one[2] - other[2]
        key = one[1] + other[1] - (2 * min(one[2], other[2]) << self.shift)
        level = one[0] + other[0]
        if self.may_stay(key) and not self.is_sum(key, level, number):
            mother = one[2] if number > 0 else other[2]
            self.offer(added(one[3], other[3], 1), key, level, mother if number != 0 else 0)


def width_for(rows, done, place):
    """How many bits hold each number that may come.

    A row that is no sum is one of at most 2 K + 2 of the rows given, K their greatest number at the place: more of
    them, put in an order in which the sums stay small, would hold some that are together 0 there.
    """
    most = max([1] + [max([row[each] for each in done]) for row in rows])
    top = max([1] + [abs(row[place]) for row in rows])
    return (8 * (most + top) * (top + 2)).bit_length() + 2


def lifted(rows, step, done, place, tops, left):
    """The rows that are no sums of others, with a number from 0 on at the place, and none above its top.

    Where `left` has the places that are left, and no other step is, a row with no number below 0 stays what it is to
    the end; TooGreat if these alone are more than 400.
    """
    rows = [row for row in rows if is_within(row, done, tops)]
    if step is not None:
        rows = [added(row, step, -(row[place] // step[place])) for row in rows]
        work = Lifting(rows, step, done, place, tops)
    else:
        step = unit_among(rows, place)
        work = Lifting([row for row in rows if row != step], None, done, place, tops)
        work.unit = step
    work.left = left
    if step is not None:
        work.reckon(step)
    while work.queue:
        work.settle(heappop(work.queue))
    found = [told[3] for told in work.middle.rows + work.above.rows] + work.filled
    return found if step is None else found + [step]


def is_within(row, done, tops):
    """Whether no number of a row at the done places is above its top."""
    return all([row[each] <= tops.get(each, row[each]) for each in done])


def unit_among(rows, place):
    """A row with 1 at the place that stands in no relation among the rows, None if there is none.

    It fills each sum of the others that is below 0 up to 0, in one way only. So it need not be added one by one: each
    row that is no sum of others below 0 makes, filled up, one that is no sum of others from 0 on.
    """
    if not any([row[place] == 1 for row in rows]):
        return None
    for at in lone_rows(rows):
        if rows[at][place] == 1:
            return rows[at]
    return None
