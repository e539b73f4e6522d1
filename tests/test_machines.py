"""Points 5, 22, 23, 24, and 26 as far as it speaks of both, either, less."""

import unittest

from tests.helpers import NUMBER, STRANGE, make_rand, refused, refuses_strange, same_value
from tests.slow import rand_machine, slow_columns, slow_least, slow_takes, small_rows, turning
from wholesay.errors import BadIndex, BadMachine, BadRow, BadWidth, TooGreat, Unlike
from wholesay.machines import all_rows, both, columns_of, either, is_machine, just, least_machine, less, need_machine
from wholesay.machines import no_rows, row_of, run_of, takes, turned

# x0 is even: what comes first tells it.
EVEN = (1, ((1, 2), (1, 1), (2, 2)), (True, True, False))


def counting(many, states):
    """A machine that counts columns with place 0, at most to its last state; only there it ends."""
    steps = tuple((state,) + (min(state + 1, states - 1),) * (2 ** many - 1) for state in range(states))
    return (many, steps, (False,) * (states - 1) + (True,))


class Values(unittest.TestCase):
    def bad(self, value, *error):
        refused(self, error, need_machine, value)
        self.assertIs(is_machine(value), False)

    def test_machines(self):
        for machine in (EVEN, counting(1, 600), (4, ((0,) * 16,), (True,)), (2, ((0, 0, 0, 1), (0, 0, 0, 0)), (True,) * 2)):
            self.assertIs(need_machine(machine), machine)
            self.assertIs(is_machine(machine), True)
        self.assertIs(need_machine(value=EVEN), EVEN)
        self.assertIs(is_machine(value=EVEN), True)

    def test_triples_and_widths(self):
        for value in STRANGE + (list(EVEN), EVEN[:2], EVEN + (0,)):
            self.bad(value, BadMachine, ())
        for many in (0, 5, -1, True, False, 1.0, "1", None, (), 10 ** 70):
            self.bad((many, "no steps", "no ends"), BadMachine, (0,))

    def test_steps_and_ends(self):
        row = (0, 0)
        for steps in (None, (), [row], {}, "ab", 0, True):
            self.bad((1, steps, "no ends"), BadMachine, (1,))
        need_machine((1, (row,) * 600, (True,) * 600))
        self.bad((1, (row,) * 601, (True,) * 601), TooGreat, 600)
        self.bad((1, ("no row",) * 601, "no ends"), TooGreat, 600)
        for ends in (None, (), (True, True), [True], True, "a", {0: True}):
            self.bad((1, ("no row",), ends), BadMachine, (2,))

    def test_rows_of_steps(self):
        for row in (None, (), (0,), (0, 0, 0), [0, 0], 0, "ab"):
            self.bad((1, ((0, 1), row), (True, 7)), BadMachine, (1, 1))
        self.bad((2, ((0, 0),), (True,)), BadMachine, (1, 0))
        for state in (-1, 2, True, False, None, 0.0, "0", (), 10 ** 70):
            self.bad((1, ((0, 1), (1, state)), (True, 7)), BadMachine, (1, 1, 1))
            self.bad((1, ((0, 1), (state, state)), (True, 7)), BadMachine, (1, 1, 0))
        for end in (None, 0, 1, "True", (), 1.0):
            self.bad((1, ((0, 1), (1, 1)), (True, end)), BadMachine, (2, 1))

    def test_the_order(self):
        # Each state with its row, its steps, its end ahead of the next one; settling at last.
        self.bad((1, ((1, 0), (1, 9)), (False, 5)), BadMachine, (1, 1, 1))
        self.bad((1, ((1, 0), (0, 1)), (7, True)), BadMachine, (2, 0))
        self.bad((1, ((1, 9), (0,)), (7, True)), BadMachine, (1, 0, 1))
        self.bad((1, ((0, 0), (0,)), (7, True)), BadMachine, (2, 0))
        self.bad((1, ((1, 0), (0, 1), (9, 9)), (False, True, True)), BadMachine, (1, 2, 0))

    def test_settled(self):
        self.bad((1, ((0, 1), (2, 0), (0, 0)), (False, True, False)), BadMachine, (2, 1))
        self.bad((1, ((0, 1), (0, 0)), (True, False)), BadMachine, (2, 1))
        self.bad((1, ((1, 0), (0, 0)), (True, False)), BadMachine, (2, 0))
        need_machine((1, ((0, 1), (1, 0)), (True, False)))


class Checks(unittest.TestCase):
    def test_one_machine(self):
        for call, more in ((takes, ((0,),)), (run_of, ((0,),)), (least_machine, ()), (turned, ())):
            refused(self, (BadMachine, (0,)), call, (7, 0, 0), *more)
            refused(self, (BadMachine, (2, 1)), call, (1, ((0, 1), (0, 0)), (True, False)), *more)
            refused(self, (TooGreat, 600), call, (1, ((0, 0),) * 601, 0), *more)
            for value in STRANGE:
                refused(self, (BadMachine, ()), call, value, *more)

    def test_two_machines(self):
        wide = all_rows(3)
        for call in (both, either, less):
            refused(self, (BadMachine, (1,)), call, (1, 0, 0), (7, 0, 0))
            refused(self, (BadMachine, (0,)), call, wide, (7, 0, 0))
            for value in STRANGE:
                refused(self, (BadMachine, ()), call, value, EVEN)
                refused(self, (BadMachine, ()), call, EVEN, value)
            refused(self, (Unlike, 1), call, wide, EVEN)
            refused(self, (Unlike, 3), call, first=EVEN, second=wide)
            refused(self, (Unlike, 3), call, counting(1, 600), wide)


class Reading(unittest.TestCase):
    def test_columns(self):
        self.assertEqual(columns_of(2, (6, 3)), (2, 3, 1))
        self.assertEqual(columns_of(1, (0,)), ())
        self.assertEqual(columns_of(many=4, row=(0, 8, 0, 1)), (8, 0, 0, 2))
        self.assertEqual(len(columns_of(1, (NUMBER,))), 200)
        refused(self, (BadWidth, 0), columns_of, 0, "no row")
        refuses_strange(self, BadWidth, columns_of, (), ((0,),))
        refuses_strange(self, BadRow, columns_of, (3,))
        for row in ((0,), (0, NUMBER + 1), (0, -1), (True, 0), [0, 0]):
            refused(self, (BadRow, row), columns_of, 2, row)

    def test_rows(self):
        self.assertEqual(row_of(2, (2, 3, 1)), (6, 3))
        self.assertEqual(row_of(2, (2, 3, 1, 0, 0)), (6, 3))
        self.assertEqual(row_of(3, ()), (0, 0, 0))
        self.assertEqual(row_of(many=1, columns=(1,) * 1000), (2 ** 1000 - 1,))
        refused(self, (BadWidth, True), row_of, True, "no columns")
        for columns in (None, [1], 5, "1", {}):
            refused(self, (BadIndex, columns), row_of, 2, columns)
        refused(self, (TooGreat, 1000), row_of, 1, (0,) * 1001)
        refused(self, (TooGreat, 1000), row_of, 1, ("no column",) * 1001)
        for column in (-1, 4, True, False, 1.0, None, (), "1"):
            refused(self, (BadIndex, column), row_of, 2, (3, column, 9))
        self.assertEqual(row_of(4, (15, 0)), (1, 1, 1, 1))
        refused(self, (BadIndex, 16), row_of, 4, (15, 16))

    def test_there_and_back(self):
        rand = make_rand(40)
        for _ in range(200):
            many = rand.randint(1, 4)
            row = tuple(rand.randint(0, rand.choice((0, 5, NUMBER))) for _ in range(many))
            self.assertEqual(list(columns_of(many, row)), slow_columns(row))
            self.assertEqual(row_of(many, columns_of(many, row)), row)

    def test_runs(self):
        self.assertEqual(run_of(EVEN, (0,)), (0,))
        self.assertEqual(run_of(EVEN, (6,)), (0, 1, 1, 1))
        self.assertEqual(run_of(machine=EVEN, row=(5,)), (0, 2, 2, 2))
        self.assertEqual(run_of(counting(2, 3), (5, 8)), (0, 1, 1, 2, 2))
        for call in (run_of, takes):
            for row in ((0, 0), (), (NUMBER + 1,), (-1,), (True,), [0], 0):
                refused(self, (BadRow, row), call, EVEN, row)
            refuses_strange(self, BadRow, call, (EVEN,), let=((1,),))

    def test_taking(self):
        for number in list(range(20)) + [NUMBER, NUMBER - 1]:
            self.assertIs(takes(EVEN, (number,)), number % 2 == 0)
        self.assertIs(takes(machine=counting(1, 3), row=(6,)), True)
        rand = make_rand(41)
        for _ in range(100):
            machine = rand_machine(rand, rand.randint(1, 3), rand.randint(1, 6))
            row = tuple(rand.randint(0, rand.choice((9, NUMBER))) for _ in range(machine[0]))
            states = run_of(machine, row)
            self.assertEqual(len(states), len(columns_of(machine[0], row)) + 1)
            for at, column in enumerate(columns_of(machine[0], row)):
                self.assertEqual(states[at + 1], machine[1][states[at]][column])
            self.assertIs(takes(machine, row), slow_takes(machine, row))
            self.assertIs(takes(machine, row), machine[2][states[-1]])


class Making(unittest.TestCase):
    def judge(self, machine, many, rows, truth):
        """A least machine of the width that takes just what truth tells."""
        self.assertIs(need_machine(machine), machine)
        self.assertEqual(machine[0], many)
        self.assertTrue(same_value(machine[1:], slow_least(machine[1], machine[2])))
        for row in rows:
            self.assertIs(takes(machine, row), truth(row), row)

    def test_none_and_all(self):
        for many in range(1, 5):
            self.assertTrue(same_value(no_rows(many), (many, ((0,) * 2 ** many,), (False,))))
            self.assertTrue(same_value(all_rows(many=many), (many, ((0,) * 2 ** many,), (True,))))
        for call in (no_rows, all_rows):
            refuses_strange(self, BadWidth, call)
            for many in (0, 5):
                refused(self, (BadWidth, many), call, many)

    def test_just_one(self):
        for row in small_rows(2, 5):
            self.judge(just(2, row), 2, small_rows(2, 7), lambda each: each == row)
        self.assertEqual(just(1, (0,)), (1, ((0, 1), (1, 1)), (True, False)))
        self.assertEqual(just(many=1, row=(1,)), (1, ((1, 2), (1, 1), (2, 1)), (False, False, True)))
        great = (NUMBER, 0, 7, NUMBER - 1)
        near = [great, (NUMBER, 0, 7, NUMBER), (NUMBER - 1, 0, 7, NUMBER - 1), (0, 0, 7, 0), (NUMBER, 2 ** 199, 7, NUMBER - 1)]
        self.judge(just(4, great), 4, near, lambda each: each == great)
        refused(self, (BadWidth, 5), just, 5, 0)
        refuses_strange(self, BadRow, just, (2,))
        refused(self, (BadRow, (NUMBER + 1,)), just, 1, (NUMBER + 1,))

    def test_least_ones(self):
        twice = (1, ((1, 2), (3, 3), (2, 4), (1, 3), (4, 2), (5, 0)), (True, True, False, True, False, True))
        want = (1, ((1, 2), (1, 1), (2, 2)), (True, True, False))
        self.assertTrue(same_value(least_machine(twice), want))
        self.assertTrue(same_value(least_machine(machine=EVEN), EVEN))
        # Numbered as they are come to: column 1 of state 0 leads to what is 2 here.
        turned_about = (1, ((2, 1), (1, 1), (2, 2)), (True, False, True))
        self.assertEqual(least_machine(turned_about), EVEN)
        rand = make_rand(42)
        for _ in range(400):
            machine = rand_machine(rand, rand.randint(1, 3), rand.randint(1, 9))
            made = least_machine(machine)
            self.assertEqual(least_machine(made), made)
            self.judge(made, machine[0], small_rows(machine[0], 5), lambda row: slow_takes(machine, row))
            self.assertTrue(same_value(made[1:], slow_least(machine[1], machine[2])))

    def test_the_fact(self):
        # Unlike least machines are told apart by some row of a few columns.
        rand = make_rand(43)
        made = [least_machine(rand_machine(rand, 1, 4)) for _ in range(60)]
        taken = [[takes(each, row) for row in small_rows(1, 127)] for each in made]
        for at, one in enumerate(made):
            for to, other in enumerate(made):
                self.assertIs(one == other, taken[at] == taken[to])

    def test_great_ones(self):
        self.assertEqual(least_machine(counting(1, 600)), counting(1, 600))
        self.assertEqual(least_machine(counting(4, 600)), counting(4, 600))
        apart = counting(2, 600)
        apart = apart[:2] + ((False,) * 299 + (True,) * 301,)
        self.assertEqual(len(least_machine(apart)[1]), 300)
        self.assertEqual(least_machine((1, ((0, 0),) * 600, (True,) * 600)), all_rows(1))

    def test_turned(self):
        self.assertEqual(turned(EVEN), (1, EVEN[1], (False, False, True)))
        self.assertEqual(turned(machine=no_rows(3)), all_rows(3))
        rand = make_rand(44)
        for _ in range(100):
            machine = rand_machine(rand, rand.randint(1, 3), rand.randint(1, 7))
            made = turned(machine)
            self.judge(made, machine[0], small_rows(machine[0], 5), lambda row: not slow_takes(machine, row))
            self.assertEqual(turned(made), least_machine(machine))

    def test_two(self):
        rand = make_rand(45)
        ways = ((both, lambda a, b: a and b), (either, lambda a, b: a or b), (less, lambda a, b: a and not b))
        for _ in range(100):
            many = rand.randint(1, 3)
            one, other = rand_machine(rand, many, rand.randint(1, 6)), rand_machine(rand, many, rand.randint(1, 6))
            for call, truth in ways:
                made = call(first=one, second=other)
                self.judge(made, many, small_rows(many, 5),
                           lambda row: truth(slow_takes(one, row), slow_takes(other, row)))
        self.assertEqual(both(EVEN, all_rows(1)), EVEN)
        self.assertEqual(either(EVEN, turned(EVEN)), all_rows(1))
        self.assertEqual(less(EVEN, EVEN), no_rows(1))
        great = [just(2, (NUMBER, 1)), just(2, (1, NUMBER))]
        self.assertEqual([takes(either(*great), row) for row in ((NUMBER, 1), (1, NUMBER), (1, 1), (NUMBER, NUMBER))],
                         [True, True, False, False])


class Work(unittest.TestCase):
    def test_pairs(self):
        # Of 50 and 60 states, both turned as far as each likes, come 3,000 pairs; a trap makes it one more.
        one, other = turning(2, (0,), 50), turning(2, (1,), 60)
        self.assertEqual(least_machine(one), one)
        refused(self, (TooGreat, 600), both, one, other)
        refused(self, (TooGreat, 600), either, one, other)
        refused(self, (TooGreat, 600), less, one, other)
        one, other = turning(2, (0,), 50, (3,)), turning(2, (1,), 60, (3,))
        for call in (both, either, less):
            refused(self, (TooGreat, 3000), call, one, other)
        # What comes of it may be small: here only the pairs are many.
        never = turning(2, (0,), 50)
        self.assertEqual(both(never, no_rows(2)), no_rows(2))

    def test_pairs_of_least_machines_count(self):
        one = turning(1, (0,), 100)
        idle = (1, tuple((state, (state + 1) % 101) for state in range(101)), (True,) * 101)
        self.assertEqual(both(one, idle), one)
        self.assertEqual(either(idle, one), all_rows(1))

    def test_how_many_states_come(self):
        # 20 times 30 pairs, all unlike.
        made = both(turning(2, (0,), 20), turning(2, (1,), 30))
        self.assertEqual(len(made[1]), 600)
        for call in (both, less):
            refused(self, (TooGreat, 600), call, *(turning(2, (at,), length, (3,)) for at, length in ((0, 20), (1, 30))))
        either(turning(2, (0,), 20), turning(2, (1,), 30))
        made = less(turning(2, (0,), 20), turning(2, (1,), 30))
        self.assertEqual(len(made[1]), 600)


if __name__ == "__main__":
    unittest.main()
