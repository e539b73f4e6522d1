"""Points 6 and 30 to 34: sets that are passed, made_set, turns and bars."""

import unittest

from tests.helpers import BILLION, NUMBER, STRANGE, Touchy, make_rand, refused, refuses_strange, same_value
from tests.trying import box, plus, rand_set, slow_rows
from wholesay.errors import BadIndex, BadRow, BadSet, BadWidth, TooGreat, Unlike
from wholesay.lines import bars, is_bar, made_set, need_set, turns
from wholesay.linework import common, is_ordered, ordered, star, sum_of, union

ONE = (1, (((0,), ((3,),)), ((1,), ((3,),))))
PLANE = (2, (((1, 0), ((1, 2), (3, 0))),))
TIED = (2, (((0, 0), ((0, 1),)), ((1, 1), ((1, 1), (2, 2)))))


def many_lines(count):
    return (1, tuple(((at,), ()) for at in range(count)))


class Passed(unittest.TestCase):
    def test_sets(self):
        for value in (ONE, PLANE, (1, ()), (4, (((0,) * 4, ()),)), (1, (((BILLION,), ((BILLION,),)),)),
                      (1, (((0,), tuple((at,) for at in range(1, 13))),)), many_lines(400), TIED,
                      (1, (((0,), ()), ((0,), ((1,),)), ((0,), ((1,), (2,))), ((1,), ())))):
            self.assertIs(need_set(value), value)
        self.assertEqual(need_set(value=ONE), ONE)

    def test_no_pair(self):
        for value in STRANGE:
            refused(self, (BadSet, 0), need_set, value)
        for value in ((1,), (1, (), ()), (0, ()), (5, ()), (True, ()), ("1", ()), (1.0, ()), (1, []), (1, None),
                      (1, {}), [1, ()], (None, ())):
            refused(self, (BadSet, 0), need_set, value)
        refused(self, (BadSet, 0), need_set, (5, (None,) * 401))
        refused(self, (TooGreat, 400), need_set, (1, (None,) * 401))
        refused(self, (BadSet, 1), need_set, (1, (None,) * 400))
        refused(self, (TooGreat, 400), need_set, many_lines(401))

    def test_bad_lines(self):
        good = ((0, 0), ())
        lines = [(), ((0, 0),), ((0, 0), (), ()), [(0, 0), ()], ((0,), ()), ((0, 0, 0), ()), ([0, 0], ()),
                 ((0, 0), []), ((0, 0), None), ((-1, 0), ()), ((0, BILLION + 1), ()), ((True, 0), ()), ((0, False), ()),
                 ((0, 1.0), ()), (("0", 0), ()), ((0, 0), ((0, 0),)), ((0, 0), ((1,),)), ((0, 0), ((1, 2, 3),)),
                 ((0, 0), ([1, 2],)), ((0, 0), ((1, -1),)), ((0, 0), ((1, BILLION + 1),)), ((0, 0), ((1, True),)),
                 ((0, 0), ((1, 0), (0, 1))), ((0, 0), ((1, 0), (1, 0))), ((0, 0), ((0, 1), (0, 0))),
                 ((0, 0), (None,)), ((0, 0), (1, 2)), ((0, 0), tuple((0, at) for at in range(1, 14)))]
        for line in lines + list(STRANGE):
            refused(self, (BadSet, 1), need_set, (2, (line,)))
            refused(self, (BadSet, 2), need_set, (2, (good, line)))
        refused(self, (BadSet, 1), need_set, (2, ((1, 2), good, good)))

    def test_order_of_lines(self):
        refused(self, (BadSet, 2), need_set, (1, (((0,), ()), ((0,), ()))))
        refused(self, (BadSet, 3), need_set, (1, (((0,), ()), ((2,), ()), ((1,), ()), ((1,), ()))))
        refused(self, (BadSet, 2), need_set, (1, (((0,), ((1,),)), ((0,), ()))))
        refused(self, (BadSet, 2), need_set, (1, (((1,), ()), ((0,), ()), None)))

    def test_all_functions_check(self):
        for call in (union, sum_of, common):
            refused(self, (BadSet, 0), call, 5, 6)
            refused(self, (BadSet, 1), call, ONE, (1, (5,)))
            refused(self, (TooGreat, 400), call, ONE, (1, (5,) * 401))
            refused(self, (Unlike, PLANE), call, ONE, PLANE)
            refused(self, (Unlike, ONE), call, one=PLANE, other=ONE)
        for call in (ordered, is_ordered, star):
            refused(self, (BadSet, 0), call, None)
            refused(self, (BadSet, 2), call, value=(1, (((0,), ()), ((0,), ()))))
            refused(self, (TooGreat, 400), call, many_lines(401))
        for call in (turns, bars):
            refused(self, (BadSet, 0), call, None, None)
            refused(self, (TooGreat, 400), call, many_lines(401), None)
        refused(self, (BadSet, 0), is_bar, None, None, None, None)
        refused(self, (BadSet, 1), is_bar, (1, (None,)), None, None, None)


class Made(unittest.TestCase):
    def test_made(self):
        self.assertEqual(made_set(2, ()), (2, ()))
        self.assertEqual(made_set(many=1, lines=(((4,), ()), ((0,), ((2,), (0,), (1,), (2,))), ((4,), ((0,),)))),
                         (1, (((0,), ((1,), (2,))), ((4,), ()))))
        self.assertEqual(made_set(2, (((1, 0), ((3, 0), (1, 2))),)), PLANE)
        twelve = tuple((at,) for at in range(1, 13))
        self.assertEqual(made_set(1, (((0,), twelve[::-1] + ((0,), (5,))),)), (1, (((0,), twelve),)))
        self.assertEqual(made_set(1, many_lines(400)[1][::-1] * 2), many_lines(400))
        self.assertEqual(made_set(1, (((BILLION,), ((BILLION,),)),)), (1, (((BILLION,), ((BILLION,),)),)))

    def test_refused(self):
        refuses_strange(self, BadWidth, made_set, (), (None,))
        refused(self, (BadWidth, 5), made_set, 5, None)
        for value in STRANGE:
            if not isinstance(value, tuple):
                refused(self, (BadSet, 0), made_set, 1, value)
        good = ((0,), ())
        for line in list(STRANGE) + [((0,),), ((0,), (), ()), ((0, 0), ()), ((-1,), ()), ((BILLION + 1,), ()),
                                     ((True,), ()), ((0,), []), ((0,), (1,)), ((0,), ((1, 1),)), ((0,), ((-1,),)),
                                     ((0,), ((BILLION + 1,),)), ((0,), ((1,), (False,))), [(0,), ()]]:
            refused(self, (BadSet, 2), made_set, 1, (good, line))
        thirteen = ((0,), tuple((at,) for at in range(13, 0, -1)))
        refused(self, (TooGreat, 12), made_set, 1, (thirteen,) + many_lines(401)[1])
        refused(self, (BadSet, 2), made_set, 1, (thirteen, None))
        refused(self, (BadSet, 402), made_set, 1, many_lines(401)[1] + (None,))
        refused(self, (TooGreat, 400), made_set, 1, many_lines(401)[1])


class Turns(unittest.TestCase):
    def test_turns(self):
        self.assertEqual(turns(PLANE, (1, 0)), (0, (0, 0)))
        self.assertEqual(turns(value=PLANE, row=(9, 4)), (0, (2, 2)))
        self.assertIsNone(turns(PLANE, (0, 0)))
        self.assertIsNone(turns((3, ()), (0, 0, 0)))
        both = (1, (((0,), ((2,),)), ((0,), ((4,),)), ((1,), ())))
        self.assertEqual(turns(both, (8,)), (0, (4,)))
        self.assertEqual(turns(both, (1,)), (2, ()))
        self.assertIsNone(turns(both, (3,)))
        great = (2, (((5, 7), ((3, 10 ** 9), (10 ** 9, 1))),))
        times = (10 ** 50 + 1, 10 ** 49 + 9)
        row = plus(plus((5, 7), (3, 10 ** 9), times[0]), (10 ** 9, 1), times[1])
        self.assertEqual(turns(great, row), (0, times))
        self.assertIsNone(turns(great, (row[0] + 1, row[1])))
        self.assertEqual(turns((1, (((0,), ((1,),)),)), (NUMBER,)), (0, (NUMBER,)))

    def test_rows_that_a_set_has(self):
        rand = make_rand(3001)
        told = 0
        for _ in range(120):
            many = rand.randint(1, 4)
            value = rand_set(rand, many, 3, 4, many)
            if any(not independent(many, periods) for _, periods in value[1]):
                continue
            told += 1
            rows = slow_rows(value, 8 if many < 3 else 3)
            for row in box(many, 8 if many < 3 else 3):
                found = turns(value, row)
                self.assertEqual(found is not None, row in rows)
                barred = bars(value, row)
                self.assertEqual(barred is None, row in rows)
                if found is not None:
                    base, periods = value[1][found[0]]
                    for period, times in zip(periods, found[1]):
                        base = plus(base, period, times)
                    self.assertEqual(base, row)
                    self.assertIsNone(turns((many, value[1][:found[0]]), row))
                else:
                    self.assertEqual(len(barred), len(value[1]))
                    for at, bar in enumerate(barred):
                        self.assertIs(is_bar(value, at, row, bar), True)
        self.assertGreater(told, 50)

    def test_wrong(self):
        for call in (turns, bars):
            refused(self, (BadSet, 2), call, TIED, None)
            refused(self, (BadSet, 1), call, (1, (((0,), ((1,), (2,))), ((0,), ((1,), (3,))))), None)
            refuses_strange(self, BadRow, call, (PLANE,))
            refuses_strange(self, BadRow, call, (ONE,), let=((1,),))
            for row in ((1,), (1, 2, 3), (1, -1), (1, NUMBER + 1), (True, 1), [1, 1]):
                refused(self, (BadRow, row), call, PLANE, row)
        self.assertEqual(len(bars(PLANE, (NUMBER, NUMBER))), 1)

    def test_independent(self):
        # Four periods of the width 3 are never independent, nor is one that the others make with fractions.
        refused(self, (BadSet, 1), turns, (3, (((0, 0, 0), ((0, 0, 1), (0, 1, 0), (1, 0, 0), (1, 1, 1))),)), (0, 0, 0))
        refused(self, (BadSet, 1), turns, (2, (((0, 0), ((2, 4), (3, 6))),)), (0, 0))
        self.assertEqual(turns((3, (((0, 0, 0), ((0, 1, 2), (1, 2, 4), (2, 0, 1))),)), (3, 3, 7)), (0, (1, 1, 1)))


def independent(many, periods):
    """By elimination over fractions."""
    from fractions import Fraction
    rows = [[Fraction(each) for each in period] for period in periods]
    rank = 0
    for place in range(many):
        at = next((k for k in range(rank, len(rows)) if rows[k][place] != 0), None)
        if at is not None:
            rows[rank], rows[at] = rows[at], rows[rank]
            for k in range(rank + 1, len(rows)):
                share = rows[k][place] / rows[rank][place]
                rows[k] = [a - share * b for a, b in zip(rows[k], rows[rank])]
            rank += 1
    return rank == len(periods)


class Bars(unittest.TestCase):
    def test_kinds(self):
        self.assertEqual(bars((2, ()), (1, 1)), ())
        self.assertIsNone(bars(PLANE, (2, 2)))
        value = (2, (((0, 0), ((1, 1),)), ((1, 1), ((2, 0),)), ((5, 5), ((1, 0),))))
        found = bars(value=value, row=(4, 1))
        self.assertEqual([bar[0] for bar in found], ["apart", "rest", "apart"])
        self.assertEqual(bars((1, (((5,), ((1,),)),)), (3,))[0][0], "less")
        value = (2, (((0, 0), ((1, BILLION), (BILLION, 1))),))
        great = bars(value, (NUMBER, NUMBER - 1))
        self.assertIs(is_bar(value, 0, (NUMBER, NUMBER - 1), great[0]), True)

    def test_is_bar(self):
        value = (2, (((0, 0), ((1, 1),)), ((1, 0), ((2, 0), (2, 2), (4, 0)))))
        for place, row, bar, truth in (
                (0, (2, 1), ("apart", (1, -1)), True), (0, (2, 2), ("apart", (1, -1)), False),
                (0, (2, 1), ("apart", (1, 0)), False), (0, (2, 1), ("apart", (0, 0)), False),
                (0, (2, 1), ("apart", (10 ** 99, -10 ** 99)), True), (0, (1, 2), ("less", (1, -1)), True),
                (0, (2, 1), ("less", (1, -1)), False), (0, (2, 2), ("less", (0, 0)), False),
                (0, (1, 2), ("less", (0, -1)), False), (0, (2, 1), ("less", (-2, 2)), True),
                (1, (2, 0), ("rest", 2, (1, 0)), True), (1, (2, 0), ("rest", 4, (1, 0)), False),
                (1, (2, 0), ("rest", 2, (2, 0)), False), (1, (2, 0), ("rest", 1, (1, 0)), False),
                (1, (2, 0), ("rest", -2, (1, 0)), False), (1, (2, 0), ("rest", True, (1, 0)), False),
                (1, (2, 0), ("rest", 2.0, (1, 0)), False), (1, (3, 0), ("rest", 2, (1, 0)), False),
                (1, (2, 1), ("rest", 2, (0, 1)), True), (1, (0, 0), ("less", (1, 0)), True),
                (1, (0, 0), ("rest", 2, (-1, 0)), True), (1, (1, 0), ("less", (1, 0)), False),
                (0, (2, 1), ("apart", (1, -1), ()), False), (0, (2, 1), ("apart", 2, (1, -1)), False),
                (0, (1, 2), ("less", 2, (1, -1)), False), (1, (2, 0), ("rest", (1, 0)), False),
                (1, (2, 0), ("rest", 2, 2, (1, 0)), False), (0, (2, 1), ("apart", (1, -1, 0)), False),
                (0, (2, 1), ("apart", (1,)), False), (0, (2, 1), ("apart", [1, -1]), False),
                (0, (2, 1), ["apart", (1, -1)], False), (0, (2, 1), ("apart", (True, -1)), False),
                (0, (2, 1), ("apart", (1.0, -1.0)), False), (0, (2, 1), ("other", (1, -1)), False), (0, (1, 2), ("other", (1, -1)), False),
                (0, (2, 1), (0, (1, -1)), False), (0, (2, 1), ("apart",), False), (0, (2, 1), (("apart",), (1, -1)), False)):
            self.assertIs(is_bar(value, place, row, bar), truth, (place, row, bar))
        for bar in STRANGE:
            self.assertIs(is_bar(value, 0, (2, 1), bar), False)
        self.assertIs(is_bar(value, 0, (2, 1), (Touchy(), (1, -1))), False)
        self.assertIs(is_bar(value, 0, (2, 1), ("apart", (1, Touchy()))), False)
        # Each kind is judged by each period, not by the first one alone.
        self.assertIs(is_bar(value, 1, (1, 1), ("apart", (0, 1))), False)
        self.assertIs(is_bar(value, 1, (0, 0), ("less", (1, -2))), False)
        self.assertIs(is_bar(value=value, place=1, row=(1, 1), bar=("less", (1, -1))), True)

    def test_wrong(self):
        for place in STRANGE + (2,):
            if not same_value(place, 0):
                refused(self, (BadIndex, place), is_bar, (2, PLANE[1] * 1), place, None, None)
        self.assertIs(is_bar(TIED, 1, (0, 0), ("less", (1, 0))), True)
        refused(self, (BadIndex, 0), is_bar, (1, ()), 0, None, None)
        refuses_strange(self, BadRow, is_bar, (TIED, 0), (None,))
        refused(self, (BadRow, (1, NUMBER + 1)), is_bar, TIED, 0, (1, NUMBER + 1), None)


if __name__ == "__main__":
    unittest.main()
