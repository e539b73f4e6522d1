"""Points 51 and 52: counts that are alike for all parameters, and papers of it."""

import unittest
from fractions import Fraction

from tests.helpers import STRANGE, Touchy, eq, ge, make_rand, mod, refused, same_value
from tests.slow import rand_machine, turning
from tests.test_counting import beside, far_counters, rand_counted, slow_count
from wholesay.basis import count_paper, counts_alike, first_count_apart, is_count_paper
from wholesay.counting import endless, finite_part, ways
from wholesay.errors import BadMachine, NoRow, TooGreat, Unlike
from wholesay.machines import all_rows, just, no_rows
from wholesay.places import placed, with_place
from wholesay.reading import machine_of

BELOW = machine_of(2, ge(0, (0, 1), (1, -1)))  # x1 <= x0
SUMS = machine_of(3, eq(0, (0, 1), (1, -1), (2, -1)))  # x0 = x1 + x2
ABOVE = machine_of(2, ge(0, (0, -1), (1, 1)))


def rank(rows):
    rows = [[Fraction(each) for each in row] for row in rows]
    found = 0
    for place in range(len(rows[0]) if rows else 0):
        at = next((k for k in range(found, len(rows)) if rows[k][place] != 0), None)
        if at is None:
            continue
        rows[found], rows[at] = rows[at], rows[found]
        for k in range(found + 1, len(rows)):
            share = rows[k][place] / rows[found][place]
            rows[k] = [a - share * b for a, b in zip(rows[k], rows[found])]
        found += 1
    return found


def side_by_side(first, second):
    """The first row, ZERO and ONE of both, and how far the first one's part goes."""
    one, other = ways(first), ways(second)
    ahead, behind = len(one[2]), len(other[2])
    tables = []
    for digit in (0, 1):
        rows = [tuple(row) + (0,) * behind for row in one[digit]]
        tables.append(rows + [(0,) * ahead + tuple(row) for row in other[digit]])
    start = (1,) + (0,) * (ahead - 1) + (1,) + (0,) * (behind - 1)
    return start, tables, one[2], other[2]


def led(row, table):
    return tuple(sum(a * b[to] for a, b in zip(row, table)) for to in range(len(row)))


def slow_paper(first, second):
    """The rows of all digit words in their order, as long as a length adds some."""
    start, tables, _, _ = side_by_side(first, second)
    found, level = [], [((), start)]
    while True:
        added = 0
        for _, row in sorted(level, key=lambda pair: pair[0][::-1]):
            if rank(found + [row]) > len(found):
                found.append(row)
                added += 1
        if added == 0:
            return tuple(found)
        level = [(word + (digit,), led(row, tables[digit])) for word, row in level for digit in (0, 1)]


def slow_is_paper(first, second, paper):
    start, tables, one, other = side_by_side(first, second)
    if endless(first) != endless(second):
        return False
    base = rank(paper)
    for row in [start] + [led(row, table) for row in paper for table in tables]:
        if rank(list(paper) + [row]) > base:
            return False
    return all(sum(a * b for a, b in zip(row, one)) == sum(a * b for a, b in zip(row[len(one):], other))
               for row in paper)


def twins(rand):
    """Two machines whose counts are alike, mostly by a change of places or by a last place added with one number."""
    machine = rand_counted(rand, 3)
    if machine[0] > 1 and rand.random() < 0.6:
        return machine, placed(machine[0], machine, (0,) + tuple(range(machine[0] - 1, 0, -1)))
    if rand.random() < 0.5:
        return machine, rand_counted(rand, 3)
    return machine, rand_machine(rand, machine[0], 3)


class Alike(unittest.TestCase):
    def test_cases(self):
        self.assertIs(counts_alike(first=BELOW, second=SUMS), True)
        self.assertIs(counts_alike(BELOW, ABOVE), False)
        self.assertEqual(first_count_apart(first=BELOW, second=ABOVE), 0)
        refused(self, (NoRow,), first_count_apart, BELOW, SUMS)
        self.assertIs(counts_alike(ABOVE, all_rows(3)), True)
        self.assertIs(counts_alike(all_rows(1), machine_of(2, eq(-5, (1, 1)))), True)
        # As many for all parameters up to 6.
        less = machine_of(2, ("and", (ge(0, (0, 1), (1, -1)), ge(6, (1, -1)))))
        self.assertEqual(first_count_apart(BELOW, less), 7)
        # Endless and none, finite parts alike.
        odd = machine_of(2, ("or", (mod(2, 1, (0, 1)), eq(0, (1, 1)))))
        both = machine_of(2, ("or", (mod(4, 3, (0, 1)), eq(0, (1, 1)))))
        self.assertEqual(first_count_apart(odd, both), 3)
        # Endless at 5 in just one, other counts unlike at 4.
        self.assertEqual(first_count_apart(machine_of(2, eq(-5, (0, 1))), just(1, (4,))), 4)
        self.assertEqual(first_count_apart(machine_of(2, eq(-5, (0, 1))), just(1, (6,))), 5)

    def test_beside_counts(self):
        rand = make_rand(5101)
        alike = apart = 0
        for _ in range(200):
            first, second = twins(rand)
            ones = [slow_count(first, n) for n in range(16)]
            twos = [slow_count(second, n) for n in range(16)]
            if counts_alike(first, second):
                alike += 1
                self.assertEqual(ones, twos)
                refused(self, (NoRow,), first_count_apart, first, second)
                paper = count_paper(first, second)
                self.assertEqual(paper, slow_paper(first, second))
                self.assertIs(is_count_paper(first, second, paper), True)
                continue
            apart += 1
            n = first_count_apart(first, second)
            self.assertNotEqual(slow_count(first, n), slow_count(second, n))
            self.assertEqual(ones[:n], twos[:n])
            refused(self, (Unlike, n), count_paper, first, second)
            self.assertIs(is_count_paper(first, second, slow_paper(first, second)), False)
        self.assertTrue(alike > 60 and apart > 30, (alike, apart))

    def test_great(self):
        # A row of states for the number 2 ** 249 alone, all other places free: endless there.
        steps = [(at + 1, 251) for at in range(249)] + [(251, 250), (250, 251), (251, 251)]
        late = (1, tuple(steps), tuple(at == 250 for at in range(252)))
        self.assertEqual(first_count_apart(with_place(late, 1), no_rows(3)), 2 ** 249)
        refused(self, (Unlike, 2 ** 249), count_paper, no_rows(2), with_place(late, 1))
        refused(self, (TooGreat, 40), counts_alike, late, no_rows(1))
        # A finite difference at a number of many digits.
        far = just(1, (2 ** 30 + 5,))
        self.assertEqual(first_count_apart(far, no_rows(1)), 2 ** 30 + 5)
        near = machine_of(1, ("or", (eq(-(2 ** 9), (0, 1)), eq(-(2 ** 9) - 2 ** 8 - 1, (0, 1)))))
        self.assertEqual(first_count_apart(no_rows(2), near), 2 ** 9)
        self.assertEqual(first_count_apart(just(1, (2 ** 9,)), near), 2 ** 9 + 2 ** 8 + 1)

    def test_limits(self):
        kept = (turning(1, (0,), 20), turning(1, (0,), 20))
        self.assertEqual(len(finite_part(kept[0])[1]), 20)
        self.assertIs(counts_alike(*kept), True)
        passed = (turning(1, (0,), 20), turning(1, (0,), 21))
        for call, more in ((counts_alike, ()), (first_count_apart, ()), (count_paper, ()), (is_count_paper, (None,))):
            refused(self, (BadMachine, ()), call, None, None, *more)
            refused(self, (BadMachine, (0,)), call, BELOW, (5, (), ()), *more)
            refused(self, (BadMachine, ()), call, far_counters(53, 56, 32, True), None, *more)
            refused(self, (TooGreat, 40), call, *passed, *more)
            refused(self, (TooGreat, 3000), call, far_counters(53, 56, 32, True), beside(23, 27), *more)
            refused(self, (TooGreat, 600), call, BELOW, beside(23, 27), *more)
            refused(self, (TooGreat, 600), call, beside(23, 27), far_counters(53, 56, 32, True), *more)
            # Two endless machines that lead to 53 * 57 pairs; the finite parts have but few states.
            free = [with_place(turning(1, (0,), many), 1) for many in (53, 57, 56)]
            refused(self, (TooGreat, 3000), call, free[0], free[1], *more)
            refused(self, (TooGreat, 3000), call, placed(2, free[0], (0, 1)), free[1], *more)
            if call is counts_alike:
                self.assertIs(call(free[0], free[2]), False)


class Papers(unittest.TestCase):
    def test_judged(self):
        rand = make_rand(5201)
        kinds = {True: 0, False: 0}
        for _ in range(150):
            first, second = twins(rand)
            paper = [list(row) for row in slow_paper(first, second)]
            change = rand.randrange(5)
            if change == 0:
                paper.pop(rand.randrange(len(paper)))
            elif change == 1:
                at = rand.randrange(len(paper))
                paper[at] = [3 * a - 2 * b for a, b in zip(paper[at], paper[0])]
            elif change == 2:
                paper.append([rand.randint(-2, 2) for _ in paper[0]])
            elif change == 3:
                paper[rand.randrange(len(paper))][rand.randrange(len(paper[0]))] += 1
            paper = tuple(tuple(row) for row in paper)
            want = slow_is_paper(first, second, paper)
            self.assertIs(is_count_paper(first, second, paper), want)
            kinds[want] += 1
        self.assertTrue(min(kinds.values()) > 25, kinds)

    def test_forms(self):
        paper = count_paper(first=BELOW, second=SUMS)
        self.assertIs(is_count_paper(first=BELOW, second=SUMS, paper=paper), True)
        self.assertIs(is_count_paper(BELOW, SUMS, paper[::-1] + paper), True)
        self.assertIs(is_count_paper(BELOW, SUMS, list(paper)), False)
        self.assertIs(is_count_paper(BELOW, SUMS, paper[1:]), False)
        self.assertIs(is_count_paper(BELOW, SUMS, paper + (None,)), False)
        self.assertIs(is_count_paper(BELOW, SUMS, paper + (paper[0][:-1],)), False)
        self.assertIs(is_count_paper(BELOW, SUMS, paper + (paper[0] + (0,),)), False)
        self.assertIs(is_count_paper(BELOW, SUMS, paper + (list(paper[0]),)), False)
        for bad in (True, 1.0, "1", None):
            self.assertIs(is_count_paper(BELOW, SUMS, paper + ((bad,) + paper[0][1:],)), False)
        self.assertIs(is_count_paper(BELOW, SUMS, paper + (Touchy(),)), False)
        self.assertIs(is_count_paper(BELOW, SUMS, paper + ((Touchy(),) * len(paper[0]),)), False)
        zeros = (0,) * len(paper[0])
        self.assertIs(is_count_paper(BELOW, SUMS, paper + (zeros,) * (40 - len(paper))), True)
        self.assertIs(is_count_paper(BELOW, SUMS, paper + (zeros,) * (41 - len(paper))), False)
        # Any multiple of a row that is a combination of the others.
        for factor, truth in ((10 ** 99, True), (10 ** 100, True), (-10 ** 100, True), (10 ** 100 + 1, False),
                              (-10 ** 100 - 1, False)):
            row = tuple(factor * each for each in paper[0])
            self.assertEqual(max(map(abs, row)), abs(factor))
            self.assertIs(is_count_paper(BELOW, SUMS, paper + (row,)), truth)
        for value in STRANGE:
            self.assertIs(is_count_paper(BELOW, SUMS, value), False)
            self.assertIs(is_count_paper(BELOW, SUMS, paper + (value,)), False)
        # Unlike endless parameters: the rows alone do not tell it.
        paper = slow_paper(ABOVE, no_rows(2))
        self.assertIs(is_count_paper(ABOVE, no_rows(2), paper), False)
        self.assertIs(is_count_paper(ABOVE, all_rows(2), slow_paper(ABOVE, all_rows(2))), True)
        self.assertTrue(same_value(count_paper(all_rows(1), all_rows(1)), ((1, 1),)))


if __name__ == "__main__":
    unittest.main()
