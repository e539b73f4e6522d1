"""Rows that are no sums of others, found when one more of their numbers must not be below 0.

The rows are those of a lattice whose numbers at some places, the done ones, are from 0 on. Given the rows of which all
are sums, it is told of which ones those are sums that have a number from 0 on at the new place, too. Sums of two rows
with unlike signs there are looked at by levels, the level of a row being the sum of its numbers at the done places: so
whatever a row may be a sum of is known ahead of it. Where the lattice has a row with zeros at the done places, the
step, numbers at the new place are kept beneath its own.
"""

from heapq import heappop, heappush

from wholesay.errors import TooGreat
from wholesay.squares import added

MOST_FOUND = 400


class Lifting:
    """The work at one place. The first done place tells a part of which a row may have one at most."""

    def __init__(self, rows, step, done, place):
        self.done = done
        self.place = place
        self.step = step
        self.width = width_for(rows if step is None else rows + [step], done, place)
        self.shift = self.width * len(done)
        self.guards = sum([1 << (self.width * (at + 1) - 1) for at in range(len(done) + 1)])
        # The rows found, by the sign at the place: (LEVEL, KEY, ROW), levels ascending; the key packs what is compared.
        self.above = []
        self.level = []
        self.below = []
        self.waiting = {}
        self.queue = []
        self.left = None
        self.counted = 0
        for row in rows:
            self.wait(row, sum([row[each] for each in done]))

    def side(self, number):
        """The rows found with the sign of a number."""
        if number == 0:
            return self.level
        return self.above if number > 0 else self.below

    def count(self, row):
        """Count a row that stays whatever comes at the places that are left; TooGreat of too many of them."""
        if self.left is not None and row[self.place] >= 0 and all([row[each] >= 0 for each in self.left]):
            self.counted += 1
            if self.counted > MOST_FOUND:
                raise TooGreat(MOST_FOUND)

    def key(self, row):
        """The numbers of a row at the done places and, without its sign, at the place, side by side in one integer."""
        found = abs(row[self.place])
        for each in self.done:
            found = found << self.width | row[each]
        return found

    def wait(self, row, level):
        """Let a row be looked at in its turn."""
        if level not in self.waiting:
            self.waiting[level] = []
            heappush(self.queue, level)
        self.waiting[level].append(row)

    def is_sum(self, row, level):
        """Whether a row is a sum of others of its own side."""
        if self.is_above_one(self.key(row), level, self.level):
            return True
        return row[self.place] != 0 and self.is_above_one(self.key(row), level, self.side(row[self.place]))

    def is_above_one(self, key, level, found):
        """Whether one of the rows found is nowhere greater than a row with this key."""
        guards = self.guards
        key = key | guards
        for other in found:
            # Of the rows that a sum is made of one has half its level at most.
            if 2 * other[0] > level:
                return False
            if (key - other[1]) & guards == guards:
                return True
        return False

    def settle(self, level):
        """Look at all rows of one level."""
        seen = set()
        rows = self.waiting.pop(level)
        while rows:
            row = rows.pop()
            if row not in seen:
                seen.add(row)
                if not self.is_sum(row, level):
                    rows.extend(self.twins(row))
                    self.keep(row, level)

    def twins(self, row):
        """The row on the other side of the step, if any."""
        number = row[self.place]
        if self.step is None or number == 0:
            return []
        return [added(row, self.step, -1 if number > 0 else 1)]

    def keep(self, row, level):
        """Keep a row that is no sum, and let its sums with those of the other side wait."""
        number = row[self.place]
        self.side(number).append((level, self.key(row), row))
        self.count(row)
        if number != 0:
            for other_level, _, other in self.side(-number):
                if row[self.done[0]] + other[self.done[0]] <= 1:
                    made = added(row, other, 1)
                    if not self.is_sum(made, level + other_level):
                        self.wait(made, level + other_level)


def width_for(rows, done, place):
    """How many bits hold each number that may come.

    A row that is no sum is one of at most 2 K + 2 of the rows given, K their greatest number at the place: more of
    them, put in an order in which the sums stay small, would hold some that are together 0 there.
    """
    most = max([1] + [max([row[each] for each in done]) for row in rows])
    top = max([1] + [abs(row[place]) for row in rows])
    return (8 * (most + top) * (top + 2)).bit_length() + 2


def lifted(rows, step, done, place, left):
    """The rows that are no sums of others, with a number from 0 on at the place.

    Where `left` has the places that are left, and no other step is, a row with no number below 0 stays what it is to
    the end; TooGreat if these alone are more than 400.
    """
    if step is not None:
        rows = [added(row, step, -(row[place] // step[place])) for row in rows]
    work = Lifting(rows, step, done, place)
    work.left = left
    if step is not None:
        work.count(step)
    while work.queue:
        work.settle(heappop(work.queue))
    found = [row for _, _, row in work.level + work.above]
    return found if step is None else found + [step]
