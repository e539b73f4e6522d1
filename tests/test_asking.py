"""Points 27, 28, and 26 as far as it speaks of is_within and first_apart."""

import unittest
from itertools import product

from tests.helpers import NUMBER, STRANGE, make_rand, refused, same_value
from tests.slow import rand_machine, reach, slow_takes, small_rows, turning
from wholesay.asking import alike, alike_paper, first_apart, first_row, is_alike_paper, is_none, is_none_paper
from wholesay.asking import is_within, is_within_paper, none_paper, within_paper
from wholesay.errors import BadMachine, NoRow, TooGreat, Unlike
from wholesay.machines import all_rows, both, just, less, least_machine, no_rows, row_of, takes, turned
from wholesay.reading import machine_of

EVEN = machine_of(1, ("mod", 2, (0, ((0, 1),))))
FOURTH = machine_of(1, ("mod", 4, (0, ((0, 1),))))
ONES = (is_none, first_row, none_paper)
TWOS = (is_within, alike, first_apart, within_paper, alike_paper)
CHECKS = (is_within_paper, is_alike_paper)


def slow_first(many, truth, most):
    """The first row of at most so many columns of which truth tells True, or None."""
    for count in range(most + 1):
        # The rows of that many columns, zeros behind let: shorter ones have been asked.
        rows = sorted(row_of(many, columns) for columns in product(range(2 ** many), repeat=count))
        for row in rows:
            if truth(row):
                return row
    return None


class Checks(unittest.TestCase):
    def test_machines(self):
        for call in ONES + (is_none_paper,):
            more = ((0,),) if call is is_none_paper else ()
            refused(self, (BadMachine, (0,)), call, (7, 0, 0), *more)
            for value in STRANGE:
                refused(self, (BadMachine, ()), call, value, *more)
        for call in TWOS + CHECKS:
            more = ("no paper",) if call in CHECKS else ()
            refused(self, (BadMachine, (1,)), call, (1, 0, 0), (7, 0, 0), *more)
            refused(self, (BadMachine, (0,)), call, EVEN, (7, 0, 0), *more)
            refused(self, (Unlike, 3), call, EVEN, all_rows(3), *more)
            refused(self, (Unlike, 1), call, all_rows(2), EVEN, *more)
            for value in STRANGE:
                refused(self, (BadMachine, ()), call, value, EVEN, *more)
                refused(self, (BadMachine, ()), call, EVEN, value, *more)


class Questions(unittest.TestCase):
    def test_none(self):
        self.assertIs(is_none(no_rows(4)), True)
        self.assertIs(is_none(machine=all_rows(1)), False)
        self.assertIs(is_none(just(2, (NUMBER, 0))), False)
        self.assertIs(is_none((1, ((0, 0), (1, 1)), (False, True))), True)

    def test_first(self):
        self.assertEqual(first_row(all_rows(3)), (0, 0, 0))
        self.assertEqual(first_row(machine=just(2, (NUMBER, 5))), (NUMBER, 5))
        self.assertEqual(first_row(turned(just(1, (0,)))), (1,))
        refused(self, (NoRow,), first_row, no_rows(2))
        # Fewest columns first: (3, 2) comes ahead of (0, 5), and (1, 3) ahead of (3, 2).
        either = machine_of(2, ("or", tuple(("and", (("eq", (-x, ((0, 1),))), ("eq", (-y, ((1, 1),))))) for x, y in
                                            ((3, 2), (0, 5), (1, 3), (2, 0)))))
        self.assertEqual(first_row(either), (1, 3))
        self.assertEqual(first_row(both(either, machine_of(2, ("eq", (-5, ((0, 1), (1, 1))))))), (3, 2))
        # The first number counts most, from its greatest digit on.
        self.assertEqual(first_row(machine_of(2, ("eq", (-9, ((0, 1), (1, 2)))))), (3, 3))
        self.assertEqual(first_row(machine_of(2, ("ge", (-16, ((0, 2), (1, 1)))))), (5, 6))
        # Numbers beyond 10 ** 60 are told.
        far = (1, tuple((state, state + 1) for state in range(599)) + ((599, 599),), (False,) * 599 + (True,))
        self.assertEqual(first_row(far), (2 ** 599 - 1,))
        refused(self, (Unlike, (2 ** 599 - 1,)), none_paper, far)

    def test_first_at_random(self):
        rand = make_rand(60)
        for _ in range(150):
            many = rand.randint(1, 2)
            machine = rand_machine(rand, many, rand.randint(1, 5))
            want = slow_first(many, lambda row: slow_takes(machine, row), 4)
            self.assertIs(is_none(machine), want is None)
            if want is None:
                refused(self, (NoRow,), first_row, machine)
                self.assertTrue(is_none_paper(machine, none_paper(machine)))
            else:
                self.assertTrue(same_value(first_row(machine), want))
                refused(self, (Unlike, want), none_paper, machine)

    def test_two(self):
        self.assertIs(is_within(FOURTH, EVEN), True)
        self.assertIs(is_within(first=EVEN, second=FOURTH), False)
        self.assertIs(alike(EVEN, turned(turned(EVEN))), True)
        self.assertIs(alike(first=EVEN, second=FOURTH), False)
        self.assertEqual(first_apart(first=EVEN, second=FOURTH), (2,))
        self.assertEqual(first_apart(FOURTH, EVEN), (2,))
        refused(self, (NoRow,), first_apart, EVEN, EVEN)
        refused(self, (Unlike, (2,)), alike_paper, FOURTH, EVEN)
        refused(self, (Unlike, (2,)), within_paper, EVEN, FOURTH)
        great = just(3, (NUMBER, 0, NUMBER - 1))
        self.assertEqual(first_apart(no_rows(3), great), (NUMBER, 0, NUMBER - 1))

    def test_two_at_random(self):
        rand = make_rand(61)
        for _ in range(250):
            many = rand.randint(1, 2)
            one, other = rand_machine(rand, many, rand.randint(1, 3)), rand_machine(rand, many, rand.randint(1, 2))
            if rand.random() < 0.3:
                other = both(one, other)
            apart = slow_first(many, lambda row: slow_takes(one, row) != slow_takes(other, row), 6 if many == 1 else 4)
            out = slow_first(many, lambda row: slow_takes(one, row) and not slow_takes(other, row), 6 if many == 1 else 4)
            self.assertIs(alike(one, other), apart is None)
            self.assertIs(is_within(one, other), out is None)
            self.assertIs(least_machine(one) == least_machine(other), apart is None)
            if apart is None:
                refused(self, (NoRow,), first_apart, one, other)
            else:
                self.assertTrue(same_value(first_apart(one, other), apart))
                refused(self, (Unlike, apart), alike_paper, one, other)
            if out is not None:
                self.assertEqual(first_row(less(one, other)), out)
                refused(self, (Unlike, out), within_paper, one, other)
            self.papers(one, other)

    def papers(self, one, other):
        """There is a paper exactly if it is so; it has the pairs that are come to, ascending."""
        pairs, _ = reach((0, 0), lambda pair: list(zip(one[1][pair[0]], other[1][pair[1]])))
        want = tuple(sorted(pairs))
        for asked, make, check in ((is_within, within_paper, is_within_paper), (alike, alike_paper, is_alike_paper)):
            self.assertIs(check(one, other, want), asked(one, other))
            if asked(one, other):
                self.assertEqual(make(one, other), want)


class Work(unittest.TestCase):
    def test_pairs(self):
        kept = turning(2, (0,), 50), turning(2, (1,), 60)
        passed = turning(2, (0,), 50, (3,)), turning(2, (1,), 60, (3,))
        self.assertIs(is_within(*kept), False)
        self.assertEqual(first_apart(*kept), (0, 1))
        for call in (is_within, first_apart):
            refused(self, (TooGreat, 3000), call, *passed)
        self.assertIs(alike(*passed), False)

    def test_pairs_of_papers_are_those_of_the_machines_as_passed(self):
        idle = [(2, turning(2, (at,), length)[1], (True,) * length) for at, length in ((0, 50), (1, 60), (1, 61))]
        for call in (within_paper, alike_paper):
            self.assertEqual(len(call(idle[0], idle[1])), 3000)
            refused(self, (TooGreat, 3000), call, idle[0], idle[2])
            # Ahead of what is not so.
            refused(self, (TooGreat, 3000), call, idle[0], turned(turning(2, (1,), 61)))
        self.assertIs(is_within(idle[0], idle[2]), True)
        refused(self, (NoRow,), first_apart, idle[0], idle[2])
        self.assertIs(alike(idle[0], idle[2]), True)
        # Just one pair more.
        trapped = [(2, turning(2, (at,), length, (3,))[1], (True,) * (length + 1)) for at, length in ((0, 50), (1, 60))]
        for call in (within_paper, alike_paper):
            refused(self, (TooGreat, 3000), call, *trapped)


class Papers(unittest.TestCase):
    none = (1, ((1, 2), (1, 1), (2, 1), (3, 0), (4, 4)), (False, False, False, False, True))

    def test_none(self):
        self.assertTrue(same_value(none_paper(self.none), (0, 1, 2)))
        for paper in ((0, 1, 2), (2, 1, 0), (1, 0, 2, 2, 0, 1), (0, 1, 2, 3)):
            self.assertIs(is_none_paper(self.none, paper), True)
        for paper in ((), (0,), (1, 2), (0, 2), (0, 1, 2, 4), (0, 1, 2, 5), (0, 1, 2, -1), [0, 1, 2], (False, True, 2),
                      (0, True, 2), (0, 1, 2, "0"), (0, 1, 2, None), (0, 1, 2.0), ((0,), 1, 2), ([], 0, 1, 2)) + STRANGE:
            self.assertIs(is_none_paper(machine=self.none, paper=paper), False)
        self.assertIs(is_none_paper(EVEN, (0, 1, 2)), False)
        # Those that are not come to do not matter, if they are not in it.
        refused(self, (Unlike, (0,)), none_paper, EVEN)
        refused(self, (Unlike, (5,)), none_paper, just(1, (5,)))

    def test_two(self):
        least = within_paper(first=FOURTH, second=EVEN)
        self.assertTrue(all(least[at] < least[at + 1] for at in range(len(least) - 1)))
        self.assertIs(is_within_paper(FOURTH, EVEN, least), True)
        self.assertIs(is_within_paper(FOURTH, EVEN, least[::-1] + least), True)
        self.assertIs(is_within_paper(first=EVEN, second=FOURTH, paper=least), False)
        self.assertIs(is_alike_paper(FOURTH, EVEN, least), False)
        for at in range(len(least)):
            self.assertIs(is_within_paper(FOURTH, EVEN, least[:at] + least[at + 1:]), False)
        same = alike_paper(first=EVEN, second=EVEN)
        self.assertEqual(same, ((0, 0), (1, 1), (2, 2)))
        self.assertIs(is_alike_paper(EVEN, EVEN, same), True)
        self.assertIs(is_within_paper(EVEN, EVEN, same), True)
        for check in CHECKS:
            for more in ((1, 3), (3, 1), (-1, 0), (0, True), (False, 0), (1,), (1, 1, 1), [1, 1], 1, None, "11", (1.0, 1)):
                self.assertIs(check(EVEN, EVEN, same + (more,)), False)
            for paper in STRANGE + (list(same), (0, 1, 2)):
                self.assertIs(check(first=EVEN, second=EVEN, paper=paper), False)
            # More than is needed: closed, and no ends of the first one.
            self.assertIs(check(self.none, no_rows(1), ((0, 0), (1, 0), (2, 0), (3, 0))), True)
            self.assertIs(check(self.none, no_rows(1), ((0, 0), (1, 0), (2, 0), (4, 0))), False)
        # An end of the second one alone is let in the one, not in the other.
        wide = alike_paper(all_rows(1), all_rows(1))
        self.assertEqual(wide, ((0, 0),))
        self.assertIs(is_within_paper(no_rows(1), all_rows(1), wide), True)
        self.assertIs(is_alike_paper(no_rows(1), all_rows(1), wide), False)
        self.assertIs(is_within_paper(all_rows(1), no_rows(1), wide), False)

    def test_each_paper_has_the_least_one(self):
        rand = make_rand(62)
        held = 0
        for _ in range(200):
            one = rand_machine(rand, 1, 3)
            other = rand_machine(rand, 1, 2)
            paper = tuple((rand.randrange(3), rand.randrange(2)) for _ in range(rand.randint(1, 12)))
            for check, make in ((is_within_paper, within_paper), (is_alike_paper, alike_paper)):
                if check(one, other, paper):
                    held += 1
                    self.assertTrue(set(make(one, other)) <= set(paper))
            for row in small_rows(1, 8):
                if is_within_paper(one, other, paper) and takes(one, row):
                    self.assertTrue(takes(other, row))
        self.assertGreater(held, 5)


if __name__ == "__main__":
    unittest.main()
