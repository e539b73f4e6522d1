"""Points 37 to 40: equations, their least and ground solutions, taking apart, a further condition."""

import unittest

from tests.helpers import BILLION, NUMBER, STRANGE, Touchy, make_rand, refused, refuses_strange
from tests.trying import (
    box, fits, plus, rand_condition, rand_equations, slow_least, slow_rows, slow_solutions, worth)
from wholesay.equations import counter, homogeneous, need_equations, solves, split, told_set
from wholesay.errors import BadEquations, BadRow, BadWidth, NoRow, TooGreat, Unlike
from wholesay.leasts import ground, least
from wholesay.lines import made_set

STEEP = (2, (("ge", (2, -3), -1),))
THIRDS = (2, (("mod", 3, (1, -1), 0),))
MANY = (2, (("eq", (1, 1), -400),))


def top_of(equations):
    return (40, 16, 7)[equations[0] - 1]


class Passed(unittest.TestCase):
    def test_equations(self):
        widest = tuple(("mod", 1000, (100,) * 12, -1000) for _ in range(12))
        for value in (STEEP, THIRDS, (1, ()), (12, widest), (1, (("eq", (0,), 1000), ("ge", (-100,), 0))),
                      (2, (("mod", 2, (0, 0), 1),) * 3)):
            self.assertIs(need_equations(value), value)
        self.assertEqual(need_equations(value=STEEP), STEEP)

    def test_refused(self):
        for value in STRANGE:
            refused(self, (BadEquations, ()), need_equations, value)
        for value in ((1,), (1, (), ()), [1, ()]):
            refused(self, (BadEquations, ()), need_equations, value)
        for count in STRANGE + (0, 13):
            refused(self, (BadEquations, (0,)), need_equations, (count, None))
        for rows in STRANGE:
            if not isinstance(rows, tuple):
                refused(self, (BadEquations, (1,)), need_equations, (1, rows))
        refused(self, (BadEquations, (1,)), need_equations, (1, (("eq", (1,), 0),) * 13))
        refused(self, (BadEquations, (1,)), need_equations, (1, (None,) * 13))
        refused(self, (BadEquations, (1, 0)), need_equations, (1, (None,) * 12))

    def test_conditions(self):
        good = ("eq", (1, 2), 3)
        for bad in STRANGE + (
                ("eq",), (Touchy(), (1, 2), 3), ("eq", (1, Touchy()), 3), ("eq", (1, 2)), ("eq", (1, 2), 3, 4), ("mod", (1, 2), 3), ("mod", 2, (1, 2)),
                ["eq", (1, 2), 3],
                ("ge", 2, (1, 2), 3), ("mod", 2, (1, 2), 3, 4), ("mod", 2, 0, (1, 2), 3), ("no", (1, 2), 3), (None, (1, 2), 3),
                ("eq", (1,), 3), ("eq", (1, 2, 3), 3), ("eq", [1, 2], 3), ("eq", (1, 101), 3), ("ge", (-101, 1), 3),
                ("eq", (True, 1), 3), ("eq", (1, 1.0), 3), ("eq", (1, 2), 1001), ("ge", (1, 2), -1001),
                ("eq", (1, 2), False), ("eq", (1, 2), None), ("mod", 1, (1, 2), 3), ("mod", 1001, (1, 2), 3),
                ("mod", True, (1, 2), 3), ("mod", "2", (1, 2), 3), ("mod", 2, (1, 101), 3), ("mod", 2, (1, 2), 1001)):
            refused(self, (BadEquations, (1, 0)), need_equations, (2, (bad,)))
            refused(self, (BadEquations, (1, 1)), need_equations, (2, (good, bad, None)))
            refused(self, (BadEquations, (1, 1)), counter, (2, (good,)), bad)
        refused(self, (BadEquations, (1, 12)), counter, (2, (good,) * 12), None)

    def test_all_functions_check(self):
        for call, more in ((homogeneous, ()), (solves, (None,)), (split, (None,)), (counter, (None,)), (least, ()),
                           (ground, ())):
            refused(self, (BadEquations, ()), call, None, *more)
            refused(self, (BadEquations, (1, 0)), call, (1, (None,)), *more)
        refused(self, (BadEquations, (0,)), told_set, 4, (None, None))

    def test_homogeneous(self):
        self.assertEqual(homogeneous(equations=(2, (("ge", (2, -3), -1), ("mod", 3, (1, 1), 2), ("eq", (0, 0), 1)))),
                         (2, (("ge", (2, -3), 0), ("mod", 3, (1, 1), 0), ("eq", (0, 0), 0))))
        self.assertEqual(homogeneous((3, ())), (3, ()))


class Solves(unittest.TestCase):
    def test_numbers(self):
        rand = make_rand(3701)
        for _ in range(200):
            equations = rand_equations(rand)
            numbers = tuple(rand.randint(0, 4) for _ in range(equations[0]))
            self.assertIs(solves(equations, numbers), all(fits(each, numbers) for each in equations[1]))
        great = (2, (("eq", (1, -10), 7), ("mod", 7, (1, 0), 0), ("ge", (1, -1), 0)))
        numbers = next((10 * each - 7, each) for each in range(10 ** 58, 10 ** 58 + 8) if (10 * each - 7) % 7 == 0)
        self.assertIs(solves(equations=great, numbers=numbers), True)
        self.assertIs(solves(great, plus(numbers, (10, 1))), False)
        self.assertIs(solves(great, plus(numbers, (7, 0))), False)
        self.assertIs(solves((1, ()), (NUMBER,)), True)

    def test_wrong(self):
        for call in (solves, split):
            refuses_strange(self, BadRow, call, (STEEP,))
            for numbers in ((1,), (1, 2, 3), (1, -1), (1, NUMBER + 1), (1, True), [1, 2], (1, 2.0)):
                refused(self, (BadRow, numbers), call, STEEP, numbers)
            refused(self, (BadRow, (1,)), call, MANY, (1,))


class Least(unittest.TestCase):
    def test_examples(self):
        self.assertEqual(least(STEEP), ((1, 0), (2, 1)))
        self.assertEqual(ground(equations=STEEP), ((1, 0), (2, 1), (3, 2)))
        self.assertEqual(ground(THIRDS), ((0, 3), (1, 1), (3, 0)))
        self.assertEqual(least(equations=THIRDS), ((0, 0),))
        self.assertEqual(least((3, ())), ((0, 0, 0),))
        self.assertEqual(ground((3, ())), ((0, 0, 1), (0, 1, 0), (1, 0, 0)))
        none = (2, (("eq", (2, 2), -1),))
        self.assertEqual((least(none), ground(none)), ((), ()))
        none = (2, (("ge", (0, 0), -1),))
        self.assertEqual((least(none), ground(none)), ((), ((0, 1), (1, 0))))

    def test_beside_numbers_tried(self):
        rand = make_rand(3801)
        told = 0
        for _ in range(160):
            equations = rand_equations(rand)
            top = top_of(equations)
            found = (least(equations), ground(equations))
            want = slow_least(equations, top)
            self.assertEqual(tuple(tuple(row for row in rows if max(row) <= top) for rows in found), want, equations)
            for row in found[0]:
                self.assertIs(solves(equations, row), True)
            for row in found[1]:
                self.assertIs(solves(homogeneous(equations), row), True)
            told += len(found[0]) > 1
        self.assertGreater(told, 25)

    def test_all_solutions_are_sums(self):
        rand = make_rand(3802)
        for _ in range(150):
            equations = rand_equations(rand, 2, 3, 3, 6)
            top = 12
            sums = slow_rows((equations[0], tuple((base, ground(equations)) for base in least(equations))), top)
            self.assertEqual(sums, set(slow_solutions(equations, top)), equations)

    def test_more_unknowns(self):
        rand = make_rand(3803)
        told = bounded = 0
        for _ in range(120):
            count = rand.randint(4, 6)
            rows = tuple(rand_condition(rand, count, 4, 8) for _ in range(rand.randint(1, 4)))
            try:
                found = (least((count, rows)), ground((count, rows)))
            except TooGreat:
                continue
            told += 1
            bounded += not found[1]
            ge = [row for row in rows if row[0] == "ge"]
            seen = [[row + tuple(worth(each, row, const) for each in ge) for row in some]
                    for some, const in ((found[0], True), (found[1], False))]

            def beneath(one, other):
                return all(a <= b for a, b in zip(one, other))

            # None is beneath another one, and each solution in a box has one beneath it.
            for some in seen:
                for at, row in enumerate(some):
                    self.assertFalse(any(beneath(each, row) for k, each in enumerate(some) if k != at))
                    self.assertFalse(some is seen[0] and any(beneath(each, row) for each in seen[1]))
            for row in box(count, (4, 3, 2)[count - 4]):
                for some, const in ((seen[0], True), (seen[1], False)):
                    if all(fits(each, row, const) for each in rows) and (const or any(row)):
                        values = row + tuple(worth(each, row, const) for each in ge)
                        self.assertTrue(any(beneath(each, values) for each in some), (rows, row))
            for some, const in ((found[0], True), (found[1], False)):
                self.assertTrue(all(fits(each, row, const) for row in some for each in rows))
        self.assertTrue(told > 80 and bounded > 5, (told, bounded))

    def test_hundreds(self):
        # More than 400 rows come to be looked at on the way to fewer solutions.
        for equations, many in (
                ((6, (("ge", (-2, -1, 1, 0, -2, -1), 8), ("ge", (1, 2, -2, -1, 0, 1), 3), ("ge", (-2, 2, 0, 2, -1, 1), 6),
                      ("mod", 8, (-1, 2, -2, 1, 0, 2), 3))), (391, 1)),
                ((4, (("mod", 9, (4, -4, 1, -4), 5), ("ge", (-3, 4, 0, -3), 2), ("ge", (-4, 4, 3, 3), 1))), (139, 168)),
                ((6, (("ge", (-3, 4, -1, -2, 0, -1), -1), ("ge", (1, 1, -4, 2, 4, -3), 6), ("eq", (-4, -4, 4, 2, -3, -4), -6),
                      ("mod", 5, (1, 1, 0, 0, -1, 0), 0))), (64, 277)),
                ((5, (("mod", 7, (4, 1, -4, 0, 1), 8), ("mod", 5, (3, 1, -3, 3, -2), 2), ("eq", (1, -3, -4, -2, -3), -2),
                      ("ge", (2, 0, -1, -4, -4), 2))), (24, 57)),
                ((5, (("ge", (6, -5, 1, 7, 4), 0), ("ge", (0, -4, -3, 3, -7), 7), ("mod", 5, (4, 4, -1, -3, 6), -4),
                      ("ge", (4, -7, -3, 1, 7), 6))), (109, 221))):
            self.assertEqual((len(least(equations)), len(ground(equations))), many)

    def test_bounded(self):
        # The first unknowns are told one by the other, greater by far than the numbers in the conditions.
        equations = (6, (("eq", (1, 0, 0, 0, 0, 0), -700), ("eq", (1, -2, 0, 0, 0, 0), 0), ("eq", (0, 1, -1, 0, 0, 0), -50),
                         ("eq", (0, 0, 1, -3, 0, 0), 0), ("ge", (0, 0, 0, 1, -1, 0), -98), ("ge", (0, 0, 0, 0, 1, 0), -1),
                         ("eq", (0, 0, 0, 0, 0, 1), -900)))
        self.assertEqual(least(equations), ((700, 350, 300, 100, 1, 900), (700, 350, 300, 100, 2, 900)))
        # x0 + .. + x5 is 2, and x0 - x1 at least 1: no ground solutions, as all numbers are bounded.
        equations = (6, (("eq", (1,) * 6, -2), ("ge", (1, -1, 0, 0, 0, 0), -1)))
        self.assertEqual(ground(equations), ())
        self.assertEqual(least(equations), tuple(sorted(row for row in box(6, 2) if sum(row) == 2 and row[0] > row[1])))
        # No solution, as a bar shows; but x0 = x1 = .. makes a homogeneous one with x4 and x5 at 0.
        equations = (6, (("eq", (1, -1, 0, 0, 0, 0), 0), ("eq", (0, 1, -1, 0, 0, 0), 0), ("eq", (0, 0, 1, -1, 0, 0), 0),
                         ("ge", (0, 0, 0, 0, -1, -1), -1)))
        self.assertEqual((least(equations), ground(equations)), ((), ((1, 1, 1, 1, 0, 0),)))

    def test_far_constants(self):
        # By far more rows below 0 than above would be come to one by one.
        equations = (4, (("eq", (1, 0, 1, 0), -69), ("eq", (0, -1, 8, 1), 64)))
        self.assertEqual(least(equations), tuple((69 - at, 64 + 8 * at, at, 0) for at in range(69, -1, -1)))
        self.assertEqual(ground(equations), ((0, 1, 0, 1),))
        equations = (5, (("eq", (-1, 0, 3, 9, 1), 55), ("eq", (0, 5, 1, 1, 0), -50)))
        solutions = [(55 + 3 * c + 9 * d + e, b, c, d, e) for b in range(11) for c in range(51) for d in range(51)
                     for e in range(2) if 5 * b + c + d == 50]
        self.assertEqual(least(equations), tuple(sorted(row for row in solutions if row[4] == 0)))
        self.assertEqual(ground(equations), ((1, 0, 0, 0, 1),))
        equations = (3, (("ge", (-1, 0, 6), -700), ("ge", (1, -7, 0), 3), ("ge", (0, 1, -1), 90)))
        for row in least(equations):
            self.assertTrue(all(fits(each, row) for each in equations[1]))
            for at in range(3):
                lower = tuple(each - (k == at) for k, each in enumerate(row))
                self.assertFalse(min(lower) >= 0 and all(fits(each, lower) for each in equations[1])
                                 and all(worth(each, row) - worth(each, lower) >= 0 for each in equations[1]))
        for const in (-11, -17, 5):
            rows = (("ge", (1, 7, -3), const), ("ge", (2, -1, 5), const + 3))
            self.assertEqual((least((3, rows)), ground((3, rows))), self.tried(rows, 18))

    def tried(self, rows, top):
        """(LEAST, GROUND) of conditions ge of three unknowns, rows with numbers up to the top tried by their values."""
        found = []
        for const in (True, False):
            some = {row: row + tuple(worth(each, row, const) for each in rows) for row in box(3, top)}
            some = {row: told for row, told in some.items() if min(told) >= 0 and (const or any(row))}
            found.append(some)
        level = [row for row in found[1] if max(row) <= 8]
        steps = [row for row in level if not any(self.is_under(found[1][other], found[1][row]) for other in level if other != row)]
        bases = [row for row in found[0] if not any(self.is_under(found[1][step], found[0][row]) for step in steps)]
        return tuple(sorted(bases)), tuple(sorted(steps))

    def is_under(self, told, other):
        return all(a <= b for a, b in zip(told, other))

    def test_unknowns_alike(self):
        # What one unknown tells is shared out among those that stand everywhere alike.
        for factors in ((1, 1, -2), (2, 2, -3), (1, -1, 1), (0, 0, 1), (3, 3, 3), (-1, -1, -1)):
            for kind in ("eq", "ge"):
                for const in (-4, 0, 3):
                    equations = (3, ((kind, factors, const), ("mod", 3, tuple(2 * each for each in factors), const)))
                    self.assertEqual((least(equations), ground(equations)), slow_least(equations, 7))
        many = (12, (("ge", (1,) * 11 + (-1,), -1),))
        self.assertEqual(len(least(many)), 11)
        self.assertEqual(len(ground(many)), 22)
        self.assertEqual(len(least((12, (("eq", (1,) * 11 + (0,), -3),)))), 286)
        refused(self, (TooGreat, 400), least, (12, (("eq", (1,) * 12, -4),)))
        self.assertEqual(len(least((6, (("eq", (1,) * 5 + (0,), -6),)))), 210)
        self.assertEqual(len(ground((6, (("eq", (1,) * 5 + (0,), -6),)))), 1)

    def test_greater_factors(self):
        for one, other, const in ((100, -99, 0), (100, -99, -1000), (97, -89, 1000), (-7, 100, -13)):
            equations = (2, (("eq", (one, other), const),))
            solutions = [(x, y) for x in range(1200) for y in [-(one * x + const) // other]
                         if y >= 0 and one * x + other * y + const == 0]
            self.assertEqual(ground(equations), ((abs(other), abs(one)),))
            self.assertEqual(least(equations), tuple(solutions[:1]))
        self.assertEqual(least((1, (("mod", 1000, (1,), -999), ("mod", 999, (1,), -998)))), ((998999,),))
        self.assertEqual(ground((1, (("mod", 1000, (1,), -999), ("mod", 999, (1,), -998)))), ((999000,),))
        twelve = (12, tuple(("ge", tuple((at == one) - (at == one + 1) for at in range(12)), -1) for one in range(11)))
        self.assertEqual(least(twelve), (tuple(range(11, -1, -1)),))
        self.assertEqual(ground(twelve), tuple((1,) * at + (0,) * (12 - at) for at in range(1, 13)))
        even = (12, (("eq", (1,) * 6 + (-1,) * 6, 0),))
        self.assertEqual(len(ground(even)), 36)
        self.assertTrue(all(sum(row) == 2 for row in ground(even)))

    def test_how_many(self):
        kept = (2, (("eq", (1, 1), -399),))
        self.assertEqual(least(kept), tuple((at, 399 - at) for at in range(400)))
        self.assertEqual(ground(kept), ())
        # 399 ground ones and a least one; one more of these.
        kept = (2, (("mod", 398, (1, 1), 0),))
        self.assertEqual(ground(kept), tuple((at, 398 - at) for at in range(399)))
        passed = (2, (("mod", 399, (1, 1), 0),))
        # The homogeneous ones alone are 400, with the least ones 401 and 402.
        more = (2, (("mod", 399, (1, 1), -1),))
        for equations in (MANY, passed, more, (3, (("eq", (1, 1, 1), -1000),))):
            for call in (least, ground):
                refused(self, (TooGreat, 400), call, equations)
            refused(self, (TooGreat, 400), counter, equations, ("eq", (0,) * equations[0], 0))
            refused(self, (TooGreat, 400), told_set, 1, equations)
        refused(self, (TooGreat, 400), split, MANY, (0, 400))
        refused(self, (NoRow,), split, MANY, (0, 0))


class Split(unittest.TestCase):
    def test_taken_apart(self):
        rand = make_rand(3901)
        for _ in range(250):
            equations = rand_equations(rand)
            steps = ground(equations)
            for row in slow_solutions(equations, 6)[-12:]:
                left, turned = split(equations, row)
                self.assertIn(left, least(equations))
                back = left
                for step, each in zip(steps, turned):
                    back = plus(back, step, each)
                self.assertEqual(back, row)
                at = row
                for step, each in zip(steps, turned):
                    at = plus(at, step, -each)
                    more = plus(at, step, -1)
                    self.assertTrue(min(at) >= 0 and all(fits(one, at) for one in equations[1]))
                    self.assertFalse(min(more) >= 0 and all(fits(one, more) for one in equations[1]))

    def test_great(self):
        left, turned = split(equations=STEEP, numbers=(NUMBER, 5))
        self.assertEqual(turned[0], (2 * NUMBER - 15 - 1) // 2)
        self.assertIn(left, ((1, 0), (2, 1)))
        self.assertEqual(split(THIRDS, (NUMBER, NUMBER)), ((0, 0), (NUMBER // 3, NUMBER % 3, NUMBER // 3)))
        self.assertEqual(split((1, ()), (NUMBER,)), ((0,), (NUMBER,)))
        self.assertEqual(split((2, (("eq", (1, 1), -3),)), (1, 2)), ((1, 2), ()))

    def test_no_solution(self):
        refused(self, (NoRow,), split, STEEP, (0, 0))
        refused(self, (NoRow,), split, THIRDS, (1, 2))


class ToldSet(unittest.TestCase):
    def test_first_numbers(self):
        self.assertEqual(told_set(2, STEEP), (2, (((1, 0), ((1, 0), (2, 1), (3, 2))), ((2, 1), ((1, 0), (2, 1), (3, 2))))))
        self.assertEqual(told_set(many=1, equations=STEEP), (1, (((1,), ((1,), (2,), (3,))), ((2,), ((1,), (2,), (3,))))))
        self.assertEqual(told_set(1, (2, (("ge", (0, 0), -1),))), (1, ()))
        self.assertEqual(told_set(1, (2, (("eq", (1, 0), -3),))), (1, (((3,), ()),)))
        rand = make_rand(3902)
        for _ in range(150):
            equations = rand_equations(rand)
            many = rand.randint(1, equations[0])
            steps = {row[:many] for row in ground(equations) if any(row[:many])}
            if len(steps) > 12 and least(equations):
                refused(self, (TooGreat, 12), told_set, many, equations)
                continue
            have = told_set(many, equations)
            self.assertEqual(have, made_set(many, tuple(
                (row[:many], tuple(each[:many] for each in ground(equations))) for row in least(equations))))
            for row in slow_solutions(equations, 5):
                self.assertIn(row[:many], slow_rows(have, 5))

    def test_limits(self):
        refuses_strange(self, BadWidth, told_set, (), (None,))
        refused(self, (BadEquations, ()), told_set, 4, None)
        refused(self, (Unlike, 2), told_set, 3, MANY)
        refused(self, (Unlike, 1), told_set, 2, (1, ()))
        # The number made is the least common multiple of the moduli: 998,001,000 and more.
        kept = (1, (("mod", 1000, (1,), 0), ("mod", 999, (1,), 0), ("mod", 997, (1,), 0)))
        self.assertEqual(told_set(1, kept), (1, (((0,), ((996003000,),)),)))
        passed = (1, kept[1] + (("mod", 7, (1,), 0),))
        refused(self, (TooGreat, BILLION), told_set, 1, passed)
        self.assertEqual(told_set(1, (2, (("mod", 1000, (0, 1), 0), ("mod", 999, (0, 1), 0), ("mod", 997, (0, 1), 0),
                                          ("mod", 7, (0, 1), 0)))), (1, (((0,), ((1,),)),)))
        # The last unknown is 10, each one ahead is 100 times the one behind it.
        for last, error in ((10, None), (11, (TooGreat, BILLION))):
            rows = [("eq", tuple((at == one) - 100 * (at == one + 1) for at in range(5)), 0) for one in range(4)]
            chain = (5, tuple(rows) + (("eq", (0, 0, 0, 0, 1), -last),))
            if error is None:
                self.assertEqual(told_set(1, chain), (1, (((BILLION,), ()),)))
            else:
                refused(self, error, told_set, 1, chain)
        # No solution, so no line that has the great number.
        self.assertEqual(told_set(1, (1, passed[1] + (("ge", (0,), -1),))), (1, ()))
        # x + 2 y = 2 z times 1 to 12: as many periods.
        wide = (2, (("ge", (12, -1), 0), ("ge", (-11, 1), 0)))
        self.assertEqual(told_set(2, wide), (2, (((0, 0), ((1, 11), (1, 12))),)))
        twelve = (2, (("mod", 11, (1, 1), 0),))
        self.assertEqual(len(told_set(2, twelve)[1][0][1]), 12)
        refused(self, (TooGreat, 12), told_set, 2, (2, (("mod", 12, (1, 1), 0),)))
        self.assertEqual(told_set(2, (2, (("mod", 12, (1, 1), 0), ("ge", (0, 0), -1)))), (2, ()))
        both = (3, (("mod", 12, (1, 1, 0), 0),) + tuple(each[:2] + ((0, 0, 1), 0) for each in passed[1]))
        refused(self, (TooGreat, BILLION), told_set, 3, both)
        refused(self, (TooGreat, 12), told_set, 2, both)


class Counter(unittest.TestCase):
    def test_beside_numbers_tried(self):
        rand = make_rand(4001)
        kinds = [0, 0, 0]
        for _ in range(400):
            equations = rand_equations(rand, 3, 2)
            condition = rand_condition(rand, equations[0])
            found = counter(equations, condition)
            failing = [row for row in slow_solutions(equations, 10 if equations[0] < 3 else 6) if not fits(condition, row)]
            if found is None:
                self.assertEqual(failing, [])
                kinds[0] += 1
                continue
            self.assertIs(solves(equations, found), True)
            self.assertFalse(fits(condition, found))
            bad = [row for row in least(equations) if not fits(condition, row)]
            if bad:
                self.assertEqual(found, bad[0])
                kinds[1] += 1
                continue
            kinds[2] += 1
            first = least(equations)[0]
            for step in ground(equations):
                times = next((k for k in range(1, 200) if not fits(condition, plus(first, step, k))), None)
                if times is not None:
                    self.assertEqual(found, plus(first, step, times))
                    break
        self.assertTrue(min(kinds) > 20, kinds)

    def test_cases(self):
        self.assertIsNone(counter(equations=(2, (("ge", (0, 0), -1),)), condition=("ge", (0, 0), -1)))
        self.assertIsNone(counter(STEEP, ("ge", (1, -1), -1)))
        self.assertEqual(counter(STEEP, ("ge", (-1, 0), 1)), (2, 1))
        self.assertEqual(counter(STEEP, ("ge", (-1, 0), 1000)), (1001, 0))
        self.assertEqual(counter(STEEP, ("eq", (1, -1), -1)), (2, 0))
        self.assertEqual(counter((1, ()), ("mod", 1000, (1,), 0)), (1,))
        self.assertEqual(counter((1, ()), ("ge", (-1,), 0)), (1,))
        self.assertEqual(counter((1, ()), ("ge", (-3,), 6)), (3,))
        self.assertEqual(counter((1, ()), ("ge", (-3,), 5)), (2,))


if __name__ == "__main__":
    unittest.main()
