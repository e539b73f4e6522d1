"""Points 47 to 50: how many rows machines take for each parameter."""

import unittest

from tests.helpers import NUMBER, STRANGE, eq, ge, make_rand, mod, refused, refuses_strange, same_value
from tests.slow import rand_machine, slow_least, turning
from wholesay.counting import count_at, count_below, counts_left, endless, exactly, finite_part, ways
from wholesay.errors import BadMachine, BadParameter, TooGreat
from wholesay.machines import all_rows, just, least_machine, less, need_machine, no_rows, takes
from wholesay.places import placed
from wholesay.reading import machine_of

BELOW = machine_of(2, ge(0, (0, 1), (1, -1)))  # x1 <= x0
ABOVE = machine_of(2, ge(0, (0, -1), (1, 1)))  # x0 <= x1
COINS = machine_of(3, eq(0, (0, 1), (1, -2), (2, -3)))
MIXED = machine_of(2, ("or", (("and", (mod(2, 0, (0, 1)), ge(0, (0, 1), (1, -1)))), mod(6, 1, (0, 1)))))


def slow_count(machine, n):
    """By rows of ever more columns: if many more add none, none are left."""
    many, steps, ends = machine

    def up_to(length):
        found = {0: 1}
        for at in range(length):
            more = {}
            for state, number in found.items():
                for column in range(n >> at & 1, 2 ** many, 2):
                    more[steps[state][column]] = more.get(steps[state][column], 0) + number
            found = more
        return sum(number for state, number in found.items() if ends[state])

    near = n.bit_length() + len(steps)
    return up_to(near) if up_to(near) == up_to(near + len(steps) + 1) else None


def rand_counted(rand, most=6):
    """A machine at random, the half of them with a last state for good, so that finite counts come."""
    many, steps, ends = rand_machine(rand, rand.randint(1, 3), rand.randint(1, most))
    if rand.random() < 0.6:
        lost = len(steps)
        steps = [tuple(lost if at and rand.random() < 0.5 else to for at, to in enumerate(row)) for row in steps]
        return (many, tuple(steps) + ((lost,) * 2 ** many,), ends + (False,))
    return (many, steps, ends)


def counters(one, other, more, free):
    """A machine of width 2: behind `more` odd columns the next one chooses a counter of odd columns.

    There are 1 + more + one * other sets of states, if `one` and `other` have no common divisor. Columns with the
    digits 0, 1 change nothing if `free`, so that rows are endless; else they lead to a last state, as the column 3
    does behind the choice.
    """
    first, second = more + 1, more + 1 + one
    lost = second + other
    steps = [[at, at + 1, at if free else lost, lost] for at in range(more)]
    steps.append([more, first, more if free else lost, second])
    for start, many in ((first, one), (second, other)):
        steps += [[start + at, start + (at + 1) % many, start + at if free else lost, lost] for at in range(many)]
    ends = [state in (more, first, second + 1) for state in range(lost)]
    return (2, tuple(tuple(row) for row in steps) + ((lost,) * 4,), tuple(ends) + (False,))


def far_counters(one, other, more, free):
    """As counters, but all that is lost goes round in itself; so no set has it besides."""
    many, steps, ends = counters(one, other, more, free)
    lost = len(steps) - 1
    # A column that is lost from a state of a counter is that of the digit 1 without it: both lead on.
    steps = [tuple(row[1] if at == 3 and to == lost else to for at, to in enumerate(row)) for row in steps]
    return least_machine((many, tuple(steps), ends))


class Counts(unittest.TestCase):
    def test_beside_rows(self):
        rand = make_rand(4701)
        kinds = {True: 0, False: 0}
        for _ in range(250):
            machine = rand_counted(rand)
            counts = [slow_count(machine, n) for n in range(20)]
            self.assertEqual([count_at(machine, n) for n in range(20)], counts)
            for n in (0, 1, 6, 20):
                self.assertEqual(count_below(machine, n), None if None in counts[:n] else sum(counts[:n]))
            for count in counts:
                kinds[count is None] += 1
        self.assertTrue(min(kinds.values()) > 1000, kinds)

    def test_great(self):
        for n in (0, 1, 7, NUMBER - 1, NUMBER):
            self.assertEqual(count_at(BELOW, n), n + 1)
            self.assertEqual(count_below(BELOW, n), n * (n + 1) // 2)
            self.assertIsNone(count_at(ABOVE, n))
            # 2 x1 + 3 x2 = n: x2 is even or odd as n is, and at most n // 3.
            self.assertEqual(count_at(COINS, n), n // 6 + (n % 6 != 1))
            self.assertEqual(count_below(machine_of(3, ("and", (ge(0, (0, 1), (1, -1)), ge(0, (0, 1), (2, -1))))), n),
                             n * (n + 1) * (2 * n + 1) // 6)
            # x1 + 2 x2 <= n + 20, counted by x2.
            room = n + 20
            self.assertEqual(count_at(machine_of(3, ge(20, (0, 1), (1, -1), (2, -2))), n),
                             (room // 2 + 1) * (room + 1) - (room // 2) * (room // 2 + 1))
        self.assertEqual(count_below(ABOVE, 0), 0)
        self.assertIsNone(count_below(ABOVE, 1))
        self.assertEqual(count_below(MIXED, 5), 9)
        self.assertIsNone(count_below(MIXED, 6))
        self.assertEqual(count_at(machine=just(1, (5,)), n=5), 1)
        self.assertEqual(count_below(machine=just(1, (5,)), n=6), 1)
        self.assertEqual(count_below(just(1, (5,)), 5), 0)
        self.assertEqual(count_at(all_rows(1), NUMBER), 1)
        self.assertEqual(count_below(all_rows(1), NUMBER), NUMBER)
        self.assertEqual(count_at(just(4, (NUMBER, 1, NUMBER, 2)), NUMBER), 1)

    def test_wrong(self):
        for call in (count_at, count_below):
            refused(self, (BadMachine, ()), call, None, None)
            refuses_strange(self, BadParameter, call, (BELOW,))
            refused(self, (BadParameter, NUMBER + 1), call, BELOW, NUMBER + 1)


class Endless(unittest.TestCase):
    def test_beside_counts(self):
        rand = make_rand(4801)
        for _ in range(150):
            machine = rand_counted(rand)
            counts = [slow_count(machine, n) for n in range(16)]
            far = endless(machine)
            self.assertIs(need_machine(far), far)
            self.assertTrue(same_value(far[1:], slow_least(far[1], far[2])))
            self.assertEqual([takes(far, (n,)) for n in range(16)], [count is None for count in counts])
            part = finite_part(machine)
            self.assertTrue(same_value(part[1:], slow_least(part[1], part[2])))
            self.assertEqual([count_at(part, n) for n in range(16)], [count or 0 for count in counts])
            self.assertEqual(part, less(machine, placed(machine[0], far, (0,))))

    def test_cases(self):
        self.assertEqual(endless(machine=ABOVE), all_rows(1))
        self.assertEqual(endless(BELOW), no_rows(1))
        self.assertEqual(endless(all_rows(1)), no_rows(1))
        self.assertEqual(endless(MIXED), machine_of(1, mod(6, 1, (0, 1))))
        self.assertEqual(finite_part(machine=MIXED), machine_of(2, ("and", (mod(2, 0, (0, 1)), ge(0, (0, 1), (1, -1))))))
        self.assertEqual(finite_part(ABOVE), no_rows(2))
        # Endless for great parameters alone, told by what comes behind all columns that are passed.
        late = machine_of(2, ("and", (ge(-9, (0, 1)), ge(0, (0, -7), (1, 1)))))
        self.assertEqual(endless(late), machine_of(1, ge(-9, (0, 1))))

    def test_sets_of_states(self):
        kept = far_counters(53, 56, 31, True)
        refused(self, (TooGreat, 600), endless, kept)
        for call, more in ((endless, ()), (finite_part, ()), (ways, ()), (counts_left, (2, 0))):
            refused(self, (TooGreat, 3000), call, far_counters(53, 56, 32, True), *more)
        made = endless(far_counters(23, 26, 1, True))
        self.assertEqual(len(made[1]), 600)
        refused(self, (TooGreat, 600), endless, far_counters(23, 26, 2, True))
        # Small sets, but the finite rows go round beside the endless ones.
        refused(self, (TooGreat, 600), finite_part, beside(23, 27))
        self.assertTrue(len(finite_part(beside(19, 21))[1]) > 390)

    def test_wrong(self):
        for value in STRANGE:
            for call in (endless, finite_part, ways):
                refused(self, (BadMachine, ()), call, value)


def beside(one, other):
    """The first column chooses: rows that count their odd columns by `one`, or endless ones that count by `other`."""
    first, second = 1, 1 + one
    lost = second + other
    steps = [[0, first, lost, second]]
    steps += [[first + at, first + (at + 1) % one, lost, lost] for at in range(one)]
    steps += [[second + at, second + (at + 1) % other, second + at, second + (at + 1) % other] for at in range(other)]
    ends = [state in (first, second) for state in range(lost)]
    return (2, tuple(tuple(row) for row in steps) + ((lost,) * 4,), tuple(ends) + (False,))


class Ways(unittest.TestCase):
    def test_facts(self):
        rand = make_rand(4901)
        for _ in range(120):
            machine = rand_counted(rand)
            zero, one, last = ways(machine)
            part = finite_part(machine)
            many = len(part[1])
            for table, digit in ((zero, 0), (one, 1)):
                self.assertEqual(table, tuple(tuple(
                    sum(part[1][state][column] == to for column in range(digit, 2 ** machine[0], 2))
                    for to in range(many)) for state in range(many)))
            self.assertEqual(tuple(sum(zero[at][to] * last[to] for to in range(many)) for at in range(many)), last)
            for n in range(12):
                row = [1] + [0] * (many - 1)
                for at in range(n.bit_length()):
                    table = one if n >> at & 1 else zero
                    row = [sum(row[at] * table[at][to] for at in range(many)) for to in range(many)]
                self.assertEqual(sum(a * b for a, b in zip(row, last)), slow_count(machine, n) or 0)

    def test_kinds(self):
        self.assertTrue(same_value(ways(machine=all_rows(1)), (((1,),), ((1,),), (1,))))
        self.assertTrue(same_value(ways(all_rows(3)), (((4,),), ((4,),), (0,))))
        self.assertEqual(ways(just(2, (0, 3)))[2][0], 1)


class ByCounts(unittest.TestCase):
    def test_beside_counts(self):
        rand = make_rand(5001)
        some = 0
        for _ in range(120):
            machine = rand_counted(rand, 5)
            counts = [slow_count(machine, n) for n in range(16)]
            for how_many in (0, 1, 2, 4):
                try:
                    made = exactly(machine, how_many)
                except TooGreat:
                    continue
                self.assertTrue(same_value(made[1:], slow_least(made[1], made[2])))
                self.assertEqual([takes(made, (n,)) for n in range(16)], [count == how_many for count in counts])
                some += how_many > 0 and how_many in counts
            for modulus in (2, 3, 12):
                rest = rand.randrange(modulus)
                try:
                    made = counts_left(machine, modulus, rest)
                except TooGreat:
                    continue
                self.assertTrue(same_value(made[1:], slow_least(made[1], made[2])))
                self.assertEqual([takes(made, (n,)) for n in range(16)],
                                 [count is not None and count % modulus == rest for count in counts])
        self.assertGreater(some, 25)

    def test_cases(self):
        self.assertEqual(exactly(machine=BELOW, how_many=20), just(1, (19,)))
        self.assertEqual(exactly(BELOW, 0), no_rows(1))
        self.assertEqual(exactly(ABOVE, 0), no_rows(1))
        self.assertEqual(exactly(no_rows(2), 0), all_rows(1))
        self.assertEqual(exactly(no_rows(2), 1), no_rows(1))
        self.assertEqual(exactly(COINS, 2), machine_of(1, ("or", tuple(
            eq(-n, (0, 1)) for n in range(20) if n // 6 + (n % 6 != 1) == 2))))
        self.assertEqual(counts_left(machine=BELOW, modulus=12, rest=5), machine_of(1, mod(12, -4, (0, 1))))
        self.assertEqual(counts_left(ABOVE, 2, 0), no_rows(1))
        self.assertEqual(counts_left(no_rows(3), 7, 0), all_rows(1))
        self.assertEqual(counts_left(no_rows(3), 7, 1), no_rows(1))
        mixed = counts_left(MIXED, 3, 0)
        self.assertEqual([n for n in range(30) if takes(mixed, (n,))],
                         [n for n in range(30) if n % 6 != 5 and (n % 2 == 1 or (n + 1) % 3 == 0)])
        for n in (NUMBER, NUMBER - 4, NUMBER - 2):
            self.assertIs(takes(mixed, (n,)), (n + 1) % 3 == 0)

    def test_limits(self):
        # Rows with 1 at one state of each counter; nothing lost counts.
        for call, more in ((exactly, (0,)), (exactly, (20,)), (counts_left, (2, 0)), (counts_left, (12, 11))):
            refused(self, (TooGreat, 3000), call, counters(53, 56, 32, False), *more)
        refused(self, (TooGreat, 600), exactly, counters(53, 56, 31, False), 1)
        refused(self, (TooGreat, 600), counts_left, counters(53, 56, 30, False), 2, 1)
        self.assertEqual(len(exactly(counters(23, 26, 1, False), 1)[1]), 600)
        refused(self, (TooGreat, 600), exactly, counters(23, 26, 2, False), 1)
        self.assertEqual(len(counts_left(counters(23, 26, 1, False), 2, 1)[1]), 600)
        refused(self, (TooGreat, 600), counts_left, counters(23, 26, 2, False), 2, 1)
        # The numbers of states from which no column leads to an end do not matter: here they would grow for ever.
        self.assertEqual(exactly(turning(3, (0, 1, 2), 2, (7,)), 0)[0], 1)

    def test_wrong(self):
        refused(self, (BadMachine, ()), exactly, None, None)
        refused(self, (BadMachine, ()), counts_left, None, None, None)
        for value in STRANGE + (21,):
            refused(self, (BadParameter, value), exactly, BELOW, value)
        for value in STRANGE + (0, 1, 13):
            refused(self, (BadParameter, value), counts_left, BELOW, value, None)
        for value in STRANGE + (5,):
            refused(self, (BadParameter, value), counts_left, far_counters(53, 56, 32, True), 5, value)
        refused(self, (BadParameter, 21), exactly, counters(53, 56, 32, False), 21)


if __name__ == "__main__":
    unittest.main()
