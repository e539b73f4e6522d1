"""Points 64 and 68: runs of programs, and whole questions about programs."""

import unittest
from itertools import product

from tests.helpers import (
    ALWAYS, NEVER, NUMBER, STRANGE, Touchy, by_names, eq, ge, make_rand, mod, nots, rand_formula, refused,
    refuses_strange, same_value, tried)
from tests.running import DOWN, gone_round, rand_guard, rand_program, rand_step, slow_runs
from tests.test_loops import FOREVER, STAY, UP, nested
from wholesay.asking import first_row
from wholesay.errors import BadFormula, BadIndex, BadName, BadProgram, BadRow, BadWidth, NoRow, TooGreat
from wholesay.forms import negated
from wholesay.loops import before, relation, unending
from wholesay.machines import takes
from wholesay.reading import machine_of
from wholesay.runs import (
    breach, ends_always, holds_always, is_breach, jump, programs_alike, programs_apart, run, runs, unending_row)

ONES = ("one", (UP, ("add", (2,))))
AWAY = ("loop", (((ge(-3, (0, 1)),), (1,)),))
FOREVER2 = ("loop", (((), (0, 0)),))
STAY2 = ("add", (0, 0))


class Runs(unittest.TestCase):
    def test_the_example(self):
        self.assertEqual(run(1, ("loop", (((("ge", (-5, ((0, 1),))),), (-3,)),)), (12,)), ((3,), (3,)))
        self.assertEqual(run(many=1, program=DOWN, row=(12,), choices=()), ((3,), (3,)))
        self.assertEqual(jump(many=1, program=DOWN, row=(12,)), (3, (3,)))

    def test_beside_going_step_by_step(self):
        rand = make_rand(6401)
        never = chosen = 0
        for _ in range(300):
            many = rand.randint(1, 2)
            program = rand_program(rand, many, 4)
            for row in [tuple(rand.randint(0, 9) for _ in range(many)) for _ in range(4)]:
                found = slow_runs(program, row)
                self.assertEqual(runs(many, program, row), [(choices, last) for choices, last, _ in found])
                for choices, last, rounds in found:
                    never += last is None
                    chosen += len(choices) > 1
                    self.assertEqual(run(many, program, row, choices), (last, rounds))
                    for other in (choices + (0,), choices[:-1], choices[:-1] + (9,), choices[:-1] + (-1,)):
                        if other != choices and (other or not choices):
                            refused(self, (BadIndex, other), run, many, program, row, other)
        self.assertGreater(min(never, chosen), 100)

    def test_jumps(self):
        rand = make_rand(6402)
        for _ in range(300):
            many = rand.randint(1, 2)
            pairs = tuple((rand_guard(rand, many), rand_step(rand, many)) for _ in range(rand.randint(1, 3)))
            row = tuple(rand.randint(0, 12) for _ in range(many))
            self.assertEqual(jump(many, ("loop", pairs), row), gone_round(pairs, row, 200))
        for program in (UP, STAY, ("one", (DOWN,)), ("row", (DOWN,)), ("if", (), DOWN, DOWN)):
            refused(self, (BadProgram, ()), jump, 1, program, None)

    def test_great_numbers(self):
        for number in (NUMBER, NUMBER - 1, NUMBER - 2):
            rounds = (number - 2) // 3
            self.assertEqual(jump(1, DOWN, (number,)), (rounds, (number - 3 * rounds,)))
        # Both numbers grow beyond 10 ** 60: 7 more of one for each one less of the other.
        more = ("loop", (((), (-1, 7)),))
        back = ("loop", (((), (9, -2)), ((ge(-1, (1, 1)),), (0, 0))))
        self.assertEqual(jump(2, more, (NUMBER, NUMBER)), (NUMBER, (0, 8 * NUMBER)))
        last, rounds = run(2, ("row", (more, back, more)), (NUMBER, 5))
        self.assertEqual(rounds[0], NUMBER)
        there = 7 * NUMBER + 5
        turns = (there - 1) // 2
        self.assertEqual(rounds[1:], (turns, 9 * turns))
        self.assertEqual(last, (0, there - 2 * turns + 63 * turns))
        self.assertEqual(run(1, FOREVER, (NUMBER,)), (None, (None,)))
        self.assertEqual(run(1, AWAY, (2,)), ((2,), (0,)))
        self.assertEqual(run(1, AWAY, (3,)), (None, (None,)))
        self.assertEqual(runs(1, ("row", (UP,) * 29), (NUMBER,)), [((), (NUMBER + 29,))])

    def test_nothing_is_met_behind_what_never_ends(self):
        self.assertEqual(run(1, ("row", (DOWN, AWAY, ONES, DOWN)), (9,)), (None, (2, None)))
        self.assertEqual(run(1, ("row", (AWAY, ONES)), (5,)), (None, (None,)))
        refused(self, (BadIndex, (0,)), run, 1, ("row", (AWAY, ONES)), (5,), (0,))
        self.assertEqual(run(1, ("row", (AWAY, ONES)), (2,), (1,)), ((4,), (0,)))
        refused(self, (BadIndex, ()), run, 1, ("row", (AWAY, ONES)), (2,))
        self.assertEqual(runs(1, ("row", (ONES, AWAY, ONES)), (1,)), [
            ((0, 0), (3,)), ((0, 1), (4,)), ((1,), None)])

    def test_adds(self):
        self.assertEqual(run(2, ("add", (-2, 5)), (2, 0)), ((0, 5), ()))
        self.assertEqual(run(2, ("add", (-2, 5)), (1, 0)), ((1, 0), ()))
        self.assertEqual(run(1, STAY, (7,)), ((7,), ()))
        self.assertEqual(run(1, ("if", (ge(-5, (0, 1)), eq(-7, (0, 1))), UP, ("add", (-2,))), (7,)), ((8,), ()))
        self.assertEqual(run(1, ("if", (ge(-5, (0, 1)), eq(-7, (0, 1))), UP, ("add", (-2,))), (6,)), ((4,), ()))

    def test_200_runs(self):
        two, five = ("one", (UP,) * 2), ("one", (UP,) * 5)
        self.assertEqual(len(runs(1, ("row", (two, two, two, five, five)), (0,))), 200)
        self.assertEqual(len({choices for choices, _ in runs(1, ("row", (two, two, two, five, five)), (0,))}), 200)
        three = ("one", (UP,) * 3)
        refused(self, (TooGreat, 200), runs, 1, ("row", (three, three, three, three, three)), (0,))
        # 201 runs: 200 in one of two parts, 1 in the other.
        refused(self, (TooGreat, 200), runs, 1, ("one", (STAY, ("row", (two, two, two, five, five)))), (0,))
        refused(self, (TooGreat, 200), runs, 1, ("one", (("row", (two, two, two, five, five)), STAY)), (0,))
        self.assertEqual(len(run(1, ("row", (three,) * 7), (0,), (0, 1, 2, 0, 1, 2, 0))), 2)
        # All of 2 ** 9 runs would be gone, one by one, but for the limit.
        refused(self, (TooGreat, 200), runs, 1, ("row", (two,) * 9), (0,))

    def test_wrong(self):
        for call in (run, runs, jump):
            for many in STRANGE + (0, 3, 4):
                refused(self, (BadWidth, many), call, many, None, None)
            refused(self, (BadProgram, ()), call, 1, None, None)
            refused(self, (TooGreat, 6), call, 1, nested(6), None)
            refuses_strange(self, BadRow, call, (1, DOWN), let=((1,),))
            for row in ((1,), (1, 2, 3), [1, 2], (1, True), (1, -1), (1, NUMBER + 1), (Touchy(), 1)):
                refused(self, (BadRow, row), call, 2, ("loop", (((), (-1, 0)),)), row)
        refused(self, (BadRow, None), run, 1, ONES, None, None)
        for choices in STRANGE + ([0], (2,), (True,), (0, 0), (Touchy(),), (0.0,), ("0",)):
            if not same_value(choices, (1,)):
                refused(self, (BadIndex, choices), run, 1, ONES, (1,), choices)


class Ends(unittest.TestCase):
    def test_ends_always(self):
        self.assertIs(ends_always(1, DOWN), True)
        self.assertIs(ends_always(many=1, program=FOREVER), False)
        self.assertIs(ends_always(1, ("one", (STAY, FOREVER))), False)
        self.assertEqual(unending_row(1, ("one", (STAY, FOREVER))), (0,))
        self.assertEqual(unending_row(many=1, program=AWAY), (3,))
        self.assertEqual(unending_row(1, ("row", (ONES, AWAY))), (1,))
        refused(self, (NoRow,), unending_row, 1, DOWN)
        refused(self, (NoRow,), unending_row, 1, STAY)

    def test_beside_runs(self):
        rand = make_rand(6801)
        seen = {True: 0, False: 0}
        for _ in range(150):
            many = rand.randint(1, 2)
            program = rand_program(rand, many)
            near = [row for row in product(range(8), repeat=many)
                    if any(last is None for _, last, _ in slow_runs(program, row))]
            try:
                truth = ends_always(many, program)
            except TooGreat:
                continue
            seen[truth] += 1
            if truth:
                self.assertFalse(near)
                refused(self, (NoRow,), unending_row, many, program)
            elif near:
                best = min(near, key=lambda row: (max(row).bit_length(), row))
                self.assertEqual(unending_row(many, program), best)
            else:
                row = unending_row(many, program)
                self.assertIn(None, [last for _, last, _ in slow_runs(program, row)])
        self.assertGreater(min(seen.values()), 20)

    def test_errors(self):
        for call in (ends_always, unending_row):
            for many in STRANGE + (0, 3):
                refused(self, (BadWidth, many), call, many, None)
            refused(self, (BadProgram, (1, 0)), call, 1, ("row", (None,)))
            huge = ("if", (ge(-10 ** 5, (0, 99991), (1, -99989)),), FOREVER2, STAY2)
            refused(self, (TooGreat, 300), call, 2, huge)


class Claims(unittest.TestCase):
    def test_claims(self):
        self.assertIs(holds_always(1, ge(-5, (0, 1)), DOWN, ge(-2, (0, 1))), True)
        self.assertIs(holds_always(many=1, first=ALWAYS, program=DOWN, last=ge(-2, (0, 1))), False)
        self.assertEqual(breach(many=1, first=ALWAYS, program=DOWN, last=ge(-2, (0, 1))), ((0,), ()))
        refused(self, (NoRow,), breach, 1, ge(-5, (0, 1)), DOWN, ge(-2, (0, 1)))
        # What never ends breaks nothing.
        self.assertIs(holds_always(1, ge(-3, (0, 1)), AWAY, NEVER), True)
        self.assertEqual(breach(1, ALWAYS, AWAY, NEVER), ((0,), ()))
        self.assertEqual(breach(1, ge(-5, (0, 1)), ("one", (UP, ("add", (-1,)), ONES)), ge(-6, (0, 1))), ((5,), (1,)))
        self.assertEqual(breach(1, ge(-5, (0, 1)), ("one", (AWAY, ONES, ("add", (-1,)))), ge(-7, (0, 1))), ((5,), (1, 0)))

    def test_beside_runs(self):
        rand = make_rand(6802)
        seen = {True: 0, False: 0}
        for _ in range(150):
            many = rand.randint(1, 2)
            program = rand_program(rand, many)
            first, last = rand_formula(rand, 2, range(many), 4, 2), rand_formula(rand, 2, range(many), 4, 2)
            try:
                truth = holds_always(many, first, program, last)
            except TooGreat:
                continue
            seen[truth] += 1
            broken = {}
            for row in product(range(6), repeat=many):
                if tried(first, by_names(row)):
                    fails = [choices for choices, end, _ in slow_runs(program, row)
                             if end is not None and not tried(last, by_names(end))]
                    for choices, _, _ in slow_runs(program, row):
                        self.assertIs(is_breach(many, first, program, last, (row, choices)), choices in fails)
                    if fails:
                        broken[row] = fails[0]
                else:
                    self.assertIs(is_breach(many, first, program, last, (row, ())), False)
            if truth:
                self.assertFalse(broken)
                refused(self, (NoRow,), breach, many, first, program, last)
                continue
            row, choices = breach(many, first, program, last)
            self.assertIs(is_breach(many, first, program, last, (row, choices)), True)
            self.assertEqual(row, first_row(machine_of(many, ("and", (first, before(many, program, negated(last)))))))
            if broken and max(row) < 6:
                self.assertEqual(choices, broken[row])
                self.assertEqual(row, min(broken, key=lambda each: (max(each).bit_length(), each)))
        self.assertGreater(min(seen.values()), 20)

    def test_great_rows(self):
        first = ge(-10 ** 9, (0, 1))
        row, choices = breach(1, first, DOWN, eq(-3, (0, 1)))
        self.assertEqual((row, choices, run(1, DOWN, row)[0]), ((10 ** 9,), (), (4,)))
        self.assertIs(is_breach(1, first, DOWN, NEVER, ((10 ** 5000,), ())), True)
        self.assertIs(is_breach(1, first, DOWN, eq(-4, (0, 1)), ((3 * 10 ** 5000 + 1,), ())), False)
        self.assertIs(is_breach(1, first, DOWN, eq(-4, (0, 1)), ((3 * 10 ** 5000,), ())), True)

    def test_papers_of_any_kind(self):
        for paper in STRANGE + (Touchy(), ((0,),), ((0,), (), ()), [(0,), ()], ([0], ()), ((0,), []), ((0, 0), ()),
                                ((), ()), ((-1,), ()), ((True,), ()), ((0.0,), ()), ((Touchy(),), ()), (Touchy(), ()),
                                ((0,), Touchy()), ((0,), (0,)), ((0,), (Touchy(),)), (None, ()), ((0,), None)):
            self.assertIs(is_breach(1, ALWAYS, DOWN, ge(-2, (0, 1)), paper), False)
        self.assertIs(is_breach(many=1, first=ALWAYS, program=DOWN, last=ge(-2, (0, 1)), paper=((0,), ())), True)
        for row in ((0, -1), (-1, 0), (0, True), (False, 0), (0, 1.0), (0,), (0, 0, 0), (Touchy(), 0), (0, Touchy())):
            self.assertIs(is_breach(2, ALWAYS, STAY2, NEVER, (row, ())), False)
        self.assertIs(is_breach(2, ALWAYS, STAY2, NEVER, ((0, NUMBER ** 9), ())), True)
        self.assertIs(is_breach(1, ALWAYS, ONES, ge(-3, (0, 1)), ((1,), (0,))), True)
        for choices in ((1,), (), (0, 0), (2,), (-1,), (False,), (True,)):
            self.assertIs(is_breach(1, ALWAYS, ONES, ge(-3, (0, 1)), ((1,), choices)), False)

    def test_too_many_runs(self):
        three = ("one", (UP,) * 3)
        program = ("row", (three,) * 5)
        self.assertIs(holds_always(1, ALWAYS, program, NEVER), False)
        refused(self, (TooGreat, 200), breach, 1, ALWAYS, program, NEVER)
        refused(self, (NoRow,), breach, 1, NEVER, program, NEVER)
        self.assertIs(is_breach(1, ALWAYS, program, NEVER, ((7,), (0, 1, 2, 0, 1))), True)

    def test_wrong(self):
        for call, more in ((holds_always, ()), (breach, ()), (is_breach, (None,))):
            for many in STRANGE + (0, 3):
                refused(self, (BadWidth, many), call, many, None, None, None, *more)
            refused(self, (BadFormula, ()), call, 1, None, None, None, *more)
            refused(self, (BadName, 1), call, 1, ge(0, (1, 1)), None, None, *more)
            refused(self, (BadProgram, ()), call, 1, ALWAYS, None, None, *more)
            refused(self, (BadFormula, ()), call, 1, ALWAYS, UP, None, *more)
            refused(self, (BadName, 1), call, 1, ALWAYS, UP, ge(0, (1, 1)), *more)
            refused(self, (TooGreat, 20), call, 1, ALWAYS, UP, nots(20, ALWAYS), *more)
            refused(self, (TooGreat, 300), call, 1, ge(-10 ** 9, (0, 400)), UP, ge(-10 ** 9, (0, 999)), *more)
        hard = mod(997, 0, (0, 1))
        # With no such row the last formula is not asked for.
        refused(self, (NoRow,), breach, 1, NEVER, FOREVER, hard)
        refused(self, (TooGreat, 300), is_breach, 1, NEVER, FOREVER, hard, None)
        refused(self, (TooGreat, 300), is_breach, 1, hard, FOREVER, ALWAYS, None)


class Alike(unittest.TestCase):
    def test_facts(self):
        for program in (DOWN, AWAY, FOREVER, ("loop", (((eq(-2, (0, 1)),), (3,)),))):
            self.assertIs(programs_alike(1, program, ("row", (program, program))), True)
        rand = make_rand(6803)
        told = 0
        for _ in range(60):
            many = rand.randint(1, 2)
            step = rand_step(rand, many)
            guard = rand_guard(rand, many, 1) + tuple(
                ge(step[place], (place, 1)) for place in range(many) if step[place] < 0)
            loop = ("loop", ((guard, step),))
            try:
                self.assertIs(programs_alike(many, loop, ("row", (loop, loop))), True)
                other = ("if", guard, ("row", (("add", step), loop)), ("row", ()))
                self.assertIs(programs_alike(many, loop, other), True)
                refused(self, (NoRow,), programs_apart, many, loop, other)
            except TooGreat:
                continue
            told += 1
        self.assertGreater(told, 30)

    def test_apart(self):
        self.assertIs(programs_alike(many=1, one=UP, other=STAY), False)
        self.assertEqual(programs_apart(many=1, one=UP, other=STAY), ("last", (0, 0)))
        self.assertEqual(programs_apart(1, STAY, ("add", (-1,))), ("last", (1, 0)))
        self.assertEqual(programs_apart(1, ("one", (STAY, FOREVER)), STAY), ("unending", (0,)))
        self.assertIs(programs_alike(1, AWAY, ("if", (ge(-3, (0, 1)),), FOREVER, STAY)), True)
        self.assertEqual(programs_apart(1, ("one", (STAY, AWAY)), STAY), ("unending", (3,)))
        refused(self, (NoRow,), programs_apart, 1, UP, UP)

    def test_beside_runs(self):
        rand = make_rand(6804)
        seen = {"last": 0, "unending": 0, None: 0}
        for _ in range(150):
            many = rand.randint(1, 2)
            one, other = rand_program(rand, many, 2), rand_program(rand, many, 2)
            if rand.random() < 0.3:
                other = ("one", (one, FOREVER if many == 1 else FOREVER2))
            try:
                alike = programs_alike(many, one, other)
            except TooGreat:
                continue
            rows = list(product(range(5), repeat=many))
            ends = [{row: {last for _, last, _ in slow_runs(program, row)} for row in rows} for program in (one, other)]
            if alike:
                seen[None] += 1
                self.assertEqual(ends[0], ends[1])
                refused(self, (NoRow,), programs_apart, many, one, other)
                continue
            kind, row = programs_apart(many, one, other)
            seen[kind] += 1
            first = row[:many]
            some = [{last for _, last, _ in slow_runs(program, first, 900)} for program in (one, other)]
            if kind == "last":
                self.assertIsNot(row[many:] in some[0], row[many:] in some[1])
                pairs = [a + b for a in rows for b in rows if (b in ends[0][a]) != (b in ends[1][a])]
                if pairs and max(row) < 4:
                    self.assertEqual(row, min(pairs, key=lambda each: (max(each).bit_length(), each)))
            else:
                self.assertIsNot(None in some[0], None in some[1])
                for a in rows:
                    self.assertEqual(ends[0][a] - {None}, ends[1][a] - {None})
                near = [a for a in rows if (None in ends[0][a]) != (None in ends[1][a])]
                if near:
                    self.assertEqual(row, min(near, key=lambda each: (max(each).bit_length(), each)))
        self.assertGreater(min(seen.values()), 5)

    def test_machines(self):
        rand = make_rand(6805)
        for _ in range(40):
            program = rand_program(rand, 1)
            one = machine_of(2, relation(1, program))
            for row in product(range(5), repeat=2):
                lasts = [last for _, last, _ in slow_runs(program, row[:1])]
                self.assertIs(takes(one, row), row[1:] in lasts)
            self.assertIs(ends_always(1, program), not takes(machine_of(1, ("some", 0, unending(1, program))), (0,)))

    def test_wrong(self):
        for call in (programs_alike, programs_apart):
            for many in STRANGE + (0, 3):
                refused(self, (BadWidth, many), call, many, None, None)
            refused(self, (BadProgram, ()), call, 1, None, None)
            refused(self, (BadProgram, (1, 1)), call, 1, ("row", (UP, 0)), None)
            refused(self, (BadProgram, ()), call, 1, UP, None)
            refused(self, (TooGreat, 6), call, 1, UP, nested(6))
            refused(self, (TooGreat, 30), call, 1, ("row", (UP,) * 30), UP)


if __name__ == "__main__":
    unittest.main()
