"""Points 25, and 26 as far as it speaks of sets of states."""

import unittest

from tests.helpers import NUMBER, STRANGE, make_rand, refused, refuses_strange, same_value
from tests.slow import rand_machine, slow_least, slow_takes, small_rows
from wholesay.errors import BadIndex, BadMachine, BadRow, BadWidth, NoRow, TooGreat
from wholesay.machines import all_rows, just, least_machine, need_machine, no_rows, takes
from wholesay.places import number_at, placed, with_place, without
from wholesay.reading import machine_of

BELOW = machine_of(2, ("ge", (-1, ((0, -1), (1, 1)))))  # x0 < x1
DOUBLE = machine_of(2, ("eq", (0, ((0, 1), (1, -2)))))  # x0 = 2 x1


def put(row, place, number):
    return row[:place] + (number,) + row[place:]


def seen_again(length):
    """It takes x0, x1 if x1 is 2 ** K for some K and x0 has the digits K and K + length."""
    done, lost = length + 1, length + 2
    steps = [(0, 0, lost, 1)] + [(state + 1, state + 1, lost, lost) for state in range(1, length)]
    steps += [(lost, done, lost, lost), (done, done, lost, lost), (lost,) * 4]
    return (2, tuple(steps), (False,) * done + (True, False))


def two_counters(one, other, more):
    """A machine of three places, no states alike; leaving out the last one, there are 1 + one * other + more sets of states.

    Behind the first column the digit at the last place has chosen between two counters, of the columns 1 and 2. The
    column 3 leads both to the first one of some more states, and on from each of these to the last one.
    """
    first, second, last = 1, 1 + one, 1 + one + other
    steps = [[first] * 4 + [second] * 4]
    for start, many, own in ((first, one, 1), (second, other, 2)):
        for at in range(many):
            row = [start + at] * 4
            row[own] = start + (at + 1) % many
            row[3] = last if more else start + at
            steps.append(row * 2)
    for at in range(last, last + more):
        steps.append([at, at, at, min(at + 1, last + more - 1)] * 2)
    ends = [state in (first + 1, second + 1, last + more - 1) for state in range(len(steps))]
    return (3, tuple(tuple(row) for row in steps), tuple(ends))


class Placed(unittest.TestCase):
    def judge(self, made, many, rows, truth):
        self.assertIs(need_machine(made), made)
        self.assertEqual(made[0], many)
        self.assertTrue(same_value(made[1:], slow_least(made[1], made[2])))
        for row in rows:
            self.assertIs(takes(made, row), truth(row), row)

    def test_placed(self):
        self.assertEqual(placed(2, BELOW, (0, 1)), BELOW)
        self.judge(placed(many=2, machine=BELOW, places=(1, 0)), 2, small_rows(2, 6), lambda row: row[1] < row[0])
        self.judge(placed(4, BELOW, (3, 1)), 4, small_rows(4, 3), lambda row: row[3] < row[1])
        self.assertEqual(placed(3, BELOW, (1, 1)), no_rows(3))
        self.judge(placed(1, DOUBLE, (0, 0)), 1, small_rows(1, 9), lambda row: row == (0,))
        self.judge(placed(1, just(4, (2, 2, 2, 2)), (0, 0, 0, 0)), 1, small_rows(1, 9), lambda row: row == (2,))
        rand = make_rand(50)
        for _ in range(150):
            machine = rand_machine(rand, rand.randint(1, 3), rand.randint(1, 6))
            many = rand.randint(1, 3)
            places = tuple(rand.randrange(many) for _ in range(machine[0]))
            self.judge(placed(many, machine, places), many, small_rows(many, 5),
                       lambda row: slow_takes(machine, tuple(row[place] for place in places)))

    def test_placed_wrong(self):
        refuses_strange(self, BadWidth, placed, (), ("no machine", 0))
        refused(self, (BadWidth, 5), placed, 5, 0, 0)
        for value in STRANGE:
            refused(self, (BadMachine, ()), placed, 2, value, "no places")
        for places in ((0,), (0, 1, 0), (0, 2), (-1, 0), (True, 0), (0, False), [0, 1], "01", None, (0, 1.0), (0, None)):
            refused(self, (BadIndex, places), placed, 2, BELOW, places)
        self.assertEqual(placed(4, BELOW, (3, 3)), no_rows(4))
        refused(self, (BadIndex, (3, 4)), placed, 4, BELOW, (3, 4))
        refuses_strange(self, BadIndex, placed, (2, BELOW))

    def test_with_place(self):
        for place in range(3):
            self.judge(with_place(BELOW, place), 3, small_rows(3, 4),
                       lambda row: slow_takes(BELOW, row[:place] + row[place + 1:]))
        self.assertEqual(with_place(machine=all_rows(3), place=3), all_rows(4))
        for place in (0, 1, 2, 3):
            self.assertEqual(without(with_place(just(3, (1, NUMBER, 2)), place), place), just(3, (1, NUMBER, 2)))
        for value in STRANGE:
            refused(self, (BadMachine, ()), with_place, value, "no place")
        refused(self, (BadWidth, 5), with_place, all_rows(4), 0)
        refused(self, (BadWidth, 5), with_place, all_rows(4), "no place")
        for place in (-1, 3, True, False, None, 1.0, (), "0"):
            refused(self, (BadIndex, place), with_place, BELOW, place)
        refuses_strange(self, BadIndex, with_place, (BELOW,))


class Without(unittest.TestCase):
    def test_without(self):
        self.assertEqual(without(BELOW, 0), machine_of(1, ("ge", (-1, ((0, 1),)))))
        self.assertEqual(without(machine=BELOW, place=1), all_rows(1))
        self.assertEqual(without(DOUBLE, 1), machine_of(1, ("mod", 2, (0, ((0, 1),)))))
        self.assertEqual(without(no_rows(2), 1), no_rows(1))
        self.assertEqual(without(just(3, (1, 2, NUMBER)), 2), just(2, (1, 2)))
        self.assertEqual(without(just(3, (1, 2, NUMBER)), 0), just(2, (2, NUMBER)))

    def test_some_number_far_behind(self):
        # Only with a digit behind all digits of the row the machine ends.
        for number in ((0,), (1,), (NUMBER,)):
            self.assertIs(takes(without(BELOW, 1), number), True)
            self.assertEqual(number_at(BELOW, 1, number), number[0] + 1)
        steps = tuple((state, state, min(state + 1, 20), min(state + 1, 20)) for state in range(21))
        many_digits = (2, steps, (False,) * 20 + (True,))
        self.assertEqual(without(many_digits, 1), all_rows(1))
        self.assertEqual(number_at(many_digits, 1, (5,)), 2 ** 20 - 1)

    def test_beside_trying(self):
        rand = make_rand(51)
        for _ in range(150):
            machine = rand_machine(rand, rand.randint(2, 3), rand.randint(1, 5))
            place = rand.randrange(machine[0])
            made = without(machine, place)
            self.assertEqual(made[0], machine[0] - 1)
            self.assertTrue(same_value(made[1:], slow_least(made[1], made[2])))
            for row in small_rows(machine[0] - 1, 3):
                # Two digits of the row and five more than there are states.
                found = [each for each in range(128) if slow_takes(machine, put(row, place, each))]
                self.assertIs(takes(made, row), bool(found))
                if found:
                    self.assertEqual(number_at(machine, place, row), found[0])
                else:
                    refused(self, (NoRow,), number_at, machine, place, row)

    def test_great_rows(self):
        rand = make_rand(52)
        for _ in range(60):
            x = rand.randint(0, NUMBER)
            self.assertEqual(number_at(machine=BELOW, place=1, row=(x,)), x + 1)
            self.assertEqual(number_at(DOUBLE, 0, (x,)), 2 * x)
            if x % 2 == 0:
                self.assertEqual(number_at(DOUBLE, 1, (x,)), x // 2)
            else:
                refused(self, (NoRow,), number_at, DOUBLE, 1, (x,))
        self.assertEqual(number_at(DOUBLE, 0, (NUMBER,)), 2 * NUMBER)
        self.assertEqual(number_at(just(2, (3, NUMBER)), 1, (3,)), NUMBER)

    def test_wrong_ones(self):
        for call, more in ((without, ()), (number_at, ("no row",))):
            for value in STRANGE:
                refused(self, (BadMachine, ()), call, value, "no place", *more)
            refused(self, (BadWidth, 0), call, all_rows(1), "no place", *more)
            refused(self, (BadWidth, 0), call, all_rows(1), 0, *more)
            for place in (-1, 2, True, False, None, 1.0, "0"):
                refused(self, (BadIndex, place), call, BELOW, place, *more)
            refuses_strange(self, BadIndex, call, (BELOW,), more)
        for row in ((), (0, 0), (NUMBER + 1,), (-1,), (True,), [0], 0, None):
            refused(self, (BadRow, row), number_at, BELOW, 0, row)
        refuses_strange(self, BadRow, number_at, (BELOW, 1), let=((1,),))
        refused(self, (NoRow,), number_at, no_rows(2), 0, (0,))


class Work(unittest.TestCase):
    def test_sets_of_states(self):
        # The sets tell which of the last digits were 1: one digit more makes them twice as many.
        made = without(seen_again(4), 1)
        for x in range(200):
            self.assertIs(takes(made, (x,)), any(x >> at & 17 == 17 for at in range(10)))
        without(seen_again(8), 1)
        refused(self, (TooGreat, 600), without, seen_again(10), 1)
        refused(self, (TooGreat, 3000), without, seen_again(12), 1)
        refused(self, (TooGreat, 3000), without, seen_again(40), 1)

    def test_just_kept_and_just_passed(self):
        for more in (1, 2, 3):
            machine = two_counters(5, 4, more)
            self.assertEqual(len(machine[1]), len(least_machine(machine)[1]))
            self.assertEqual(len(without(machine, 2)[1]), 21 + more)
        # 1 + 81 * 37 + 2 sets are 3,000.
        refused(self, (TooGreat, 600), without, two_counters(81, 37, 2), 2)
        refused(self, (TooGreat, 3000), without, two_counters(81, 37, 3), 2)

    def test_sets_of_the_least_machine_count(self):
        # All that the counters lead to is alike if both end nowhere.
        many, steps, _ = two_counters(81, 37, 3)
        self.assertEqual(without((many, steps, (False,) * len(steps)), 2), no_rows(2))

    def test_how_many_states_come(self):
        self.assertEqual(len(without(two_counters(23, 26, 1), 2)[1]), 600)
        refused(self, (TooGreat, 600), without, two_counters(23, 26, 2), 2)


if __name__ == "__main__":
    unittest.main()
