"""Points 35 and 36: sets in order, and work on sets."""

import unittest
from math import gcd

from tests.helpers import BILLION, NUMBER, STRANGE, make_rand, refused, refuses_strange
from tests.test_lines import independent, many_lines
from tests.trying import box, plus, rand_set, slow_rows
from wholesay.errors import BadParameter, BadRow, BadSet, BadWidth, TooGreat, Unlike
from wholesay.leasts import ground, least
from wholesay.lines import made_set, need_set
from wholesay.linework import (
    common, has, is_ordered, ordered, rearranged, rows_to, star, sum_of, times, union, widened)

TIED = (1, (((0,), ((2,), (3,))),))
THIRTEEN = tuple((at,) for at in range(1, 13))


def top_of(many):
    return (24, 12, 6, 4)[many - 1]


def lies_within(line, other, top):
    return slow_rows((len(line[0]), (line,)), top) <= slow_rows((len(line[0]), (other,)), top)


def slow_tie(periods):
    """The first dependent periods' integers, found by fractions from the left."""
    from fractions import Fraction
    many = len(periods[0])
    count = next(k for k in range(1, len(periods)) if not independent(many, periods[:k + 1]))
    # Solve periods[count] = sum of the earlier ones, each times a share.
    table = [[Fraction(period[place]) for period in periods[:count + 1]] for place in range(many)]
    pivots = []
    for at in range(count):
        row = next(k for k in range(len(pivots), many) if table[k][at] != 0)
        table[len(pivots)], table[row] = table[row], table[len(pivots)]
        row = len(pivots)
        table[row] = [each / table[row][at] for each in table[row]]
        for k in range(many):
            if k != row:
                table[k] = [a - table[k][at] * b for a, b in zip(table[k], table[row])]
        pivots.append(row)
    shares = [-table[k][count] for k in pivots] + [Fraction(1)]
    scale = 1
    for share in shares:
        scale = scale * share.denominator // gcd(scale, share.denominator)
    return [int(share * scale) for share in shares]


def slow_ordered(value):
    many, lines = value
    while any(not independent(many, periods) for _, periods in lines):
        made = []
        for base, periods in lines:
            if independent(many, periods):
                made.append((base, periods))
                continue
            tie = slow_tie(periods)
            above = [at for at, number in enumerate(tie) if number > 0]
            below = [at for at, number in enumerate(tie) if number < 0]
            side = above if sum(tie[at] for at in above) <= -sum(tie[at] for at in below) else below
            for at in side:
                for k in range(abs(tie[at])):
                    made.append((plus(base, periods[at], k), periods[:at] + periods[at + 1:]))
        if len(made) > 400:
            raise TooGreat(400)
        lines = tuple(sorted(set(made)))
    top = 60 if many == 1 else 30 if many == 2 else 14
    within = {line for line in lines for other in lines if line != other and lies_within(line, other, top)}
    return (many, tuple(line for line in lines if line not in within))


class Ordered(unittest.TestCase):
    def test_rounds(self):
        self.assertEqual(ordered(TIED), (1, (((0,), ((2,),)), ((3,), ((2,),)))))
        self.assertEqual(ordered(value=(2, ())), (2, ()))
        free = (2, (((0, 0), ((0, 1), (1, 0))),))
        self.assertEqual(ordered(free), free)
        # 2 (0, 1) + 2 (1, 0) = (2, 2): F is -2, -2, 1, so the side is the last period alone.
        self.assertEqual(ordered((2, (((0, 0), ((0, 1), (1, 0), (2, 2))),))), free)
        # 3 (1, 1) = (1, 0) + (2, 3), F is 3, -1, -1: two lines without one of the others come.
        value = (2, (((0, 0), ((0, 1), (1, 0), (1, 1))),))
        self.assertEqual(ordered(value), free)
        # (0, 3) + (3, 0) = 3 (1, 1): F is 1, -3, 1; the side of 1 and 1 is the lesser one.
        self.assertEqual(ordered((2, (((0, 0), ((0, 3), (1, 1), (3, 0))),))),
                         (2, (((0, 0), ((0, 3), (1, 1))), ((0, 0), ((1, 1), (3, 0))))))
        # (0, 2) + (2, 0) = 2 (1, 1): both sides are 2, the one above 0 is taken.
        self.assertEqual(ordered((2, (((0, 0), ((0, 2), (1, 1), (2, 0))),))),
                         (2, (((0, 0), ((0, 2), (1, 1))), ((0, 0), ((1, 1), (2, 0))))))
        # 2 (2, 0) = 4 (1, 0) at once beside an independent one: 2 times 1 is 2.
        self.assertEqual(ordered((1, (((0,), ((4,), (6,))), ((1,), ((1,),))))),
                         (1, (((0,), ((4,),)), ((1,), ((1,),)))))

    def test_lines_within(self):
        value = (1, (((0,), ((2,),)), ((2,), ((4,),)), ((3,), ()), ((4,), ()), ((5,), ((2,),))))
        self.assertEqual(ordered(value), (1, (((0,), ((2,),)), ((3,), ()), ((5,), ((2,),)))))
        value = (2, (((0, 0), ((1, 0),)), ((0, 0), ((1, 0), (1, 1))), ((1, 1), ((0, 1),)), ((2, 1), ((2, 1), (3, 3)))))
        self.assertEqual(ordered(value), (2, (((0, 0), ((1, 0), (1, 1))), ((1, 1), ((0, 1),)))))

    def test_beside_a_slow_way(self):
        rand = make_rand(3501)
        told = refusals = 0
        for _ in range(220):
            many = rand.randint(1, 3)
            value = rand_set(rand, many, 3, 3, 4 if many < 3 else 3)
            try:
                want = slow_ordered(value)
            except TooGreat:
                refused(self, (TooGreat, 400), ordered, value)
                refusals += 1
                continue
            have = ordered(value)
            self.assertEqual(have, want, value)
            self.assertIs(need_set(have), have)
            self.assertEqual(ordered(have), have)
            self.assertIs(is_ordered(have), True)
            self.assertIs(is_ordered(value), have == value)
            self.assertEqual(slow_rows(have, top_of(many)), slow_rows(value, top_of(many)))
            told += have != value
        self.assertGreater(told, 60)

    def test_limits(self):
        # K and K + 1 make K lines of the period K; beside them some lines that are kept.
        def tied(many, more):
            return (2, (((0, 0), ((many, 0), (many + 1, 0))),) + tuple(((0, at), ()) for at in range(1, more + 1)))
        self.assertEqual(len(ordered(tied(400, 0))[1]), 400)
        refused(self, (TooGreat, 400), ordered, tied(401, 0))
        self.assertEqual(len(ordered(tied(100, 300))[1]), 400)
        refused(self, (TooGreat, 400), ordered, tied(100, 301))
        # Equal lines are counted each: 5 (0, 1) and 5 (1, 0) beside (5, 5) once more.
        twice = tuple(((0, 0), ((200, 0), (201, 0), (200 + at, 1))) for at in range(2))
        self.assertEqual(len(ordered(made_set(2, twice))[1]), 400)
        twice = tuple(((0, 0), ((201, 0), (202, 0), (202 + at, 1))) for at in range(2))
        refused(self, (TooGreat, 400), ordered, made_set(2, twice))
        near = (1, (((BILLION - 3,), ((2,), (3,))),))
        self.assertEqual(ordered(near), (1, (((BILLION - 3,), ((2,),)), ((BILLION,), ((2,),)))))
        refused(self, (TooGreat, BILLION), ordered, (1, (((BILLION - 2,), ((2,), (3,))),)))
        refused(self, (TooGreat, 400), ordered, (1, (((BILLION,), ((401,), (402,))),)))
        refused(self, (TooGreat, 400), ordered, (2, (((0, 0), ((1, BILLION), (BILLION, 1), (BILLION, BILLION))),)))

    def test_is_ordered(self):
        for value, truth in ((TIED, False), ((1, ()), True), ((1, (((0,), ((2,),)), ((4,), ()))), False),
                             ((1, (((0,), ((2,),)), ((1,), ((2,),)))), True), (many_lines(400), True),
                             ((1, (((0,), ((2,),)), ((1,), ((2,), (3,))))), False)):
            self.assertIs(is_ordered(value), truth)


class Has(unittest.TestCase):
    def test_rows(self):
        rand = make_rand(3502)
        for _ in range(60):
            many = rand.randint(1, 3)
            value = rand_set(rand, many, 3, 3, 4 if many < 3 else 3)
            rows = slow_rows(value, 6 if many < 3 else 4)
            for row in box(many, 6 if many < 3 else 4):
                self.assertIs(has(value, row), row in rows)

    def test_great(self):
        value = (2, (((1, 1), ((0, 7), (2, 3), (5, 0))),))
        row = plus(plus(plus((1, 1), (0, 7), 10 ** 58), (2, 3), 10 ** 59 + 3), (5, 0), 10 ** 57)
        self.assertIs(has(value=value, row=row), True)
        self.assertIs(has((1, (((0,), ((2,), (4,))),)), (NUMBER,)), True)
        self.assertIs(has((1, (((1,), ((2,), (4,))),)), (NUMBER,)), False)

    def test_wrong(self):
        refused(self, (BadSet, 0), has, None, None)
        refuses_strange(self, BadRow, has, (TIED,), let=((1,),))
        refused(self, (BadRow, (1, 1)), has, TIED, (1, 1))
        refused(self, (BadRow, (NUMBER + 1,)), has, (1, (((0,), ((401,), (402,))),)), (NUMBER + 1,))
        # What `ordered` refuses is refused, though the row stands in plain sight.
        refused(self, (TooGreat, 400), has, (1, (((0,), ((401,), (402,))),)), (0,))
        refused(self, (TooGreat, BILLION), has, (1, (((BILLION,), ((2,), (3,))),)), (0,))


class Work(unittest.TestCase):
    def both(self, seed, times=80):
        rand = make_rand(seed)
        for _ in range(times):
            many = rand.randint(1, 3)
            yield many, rand_set(rand, many, 3, 3, 2), rand_set(rand, many, 3, 3, 2)

    def test_union(self):
        for many, one, other in self.both(3601):
            self.assertEqual(slow_rows(union(one, other), 6), slow_rows(one, 6) | slow_rows(other, 6))
            self.assertEqual(union(one, other), made_set(many, other[1] + one[1]))
        half = (1, tuple(((at,), ()) for at in range(400, 600)))
        self.assertEqual(len(union(one=(1, many_lines(400)[1][:200]), other=half)[1]), 400)
        self.assertEqual(union(many_lines(400), many_lines(400)), many_lines(400))
        refused(self, (TooGreat, 400), union, many_lines(400), (1, (((400,), ()),)))

    def test_sum_of(self):
        for many, one, other in self.both(3602):
            rows = {plus(a, b) for a in slow_rows(one, 6) for b in slow_rows(other, 6)}
            made = sum_of(one, other)
            self.assertEqual(slow_rows(made, 6), {row for row in rows if max(row) <= 6})
            want = [(plus(a, b), tuple(sorted(set(p + q)))) for a, p in one[1] for b, q in other[1]]
            self.assertEqual(made, (many, tuple(sorted(set(want)))))
        lines = many_lines(20)
        self.assertEqual(sum_of(one=lines, other=lines), many_lines(39))
        refused(self, (TooGreat, 400), sum_of, many_lines(400), many_lines(2))
        self.assertEqual(sum_of(many_lines(400), many_lines(1)), many_lines(400))
        great = (1, (((BILLION,), THIRTEEN), ((BILLION,), THIRTEEN[:-1] + ((99,),))))
        refused(self, (TooGreat, 400), sum_of, great, many_lines(201))
        self.assertEqual(sum_of((1, (((BILLION - 1,), ()),)), (1, (((1,), ()),))), (1, (((BILLION,), ()),)))
        refused(self, (TooGreat, BILLION), sum_of, (1, (((BILLION,), ()),)), (1, (((1,), THIRTEEN),)))
        twelve = (1, (((0,), THIRTEEN),))
        self.assertEqual(sum_of(twelve, twelve), twelve)
        refused(self, (TooGreat, 12), sum_of, twelve, (1, (((0,), ((13,),)), ((BILLION,), ()))))
        # The first pair tells: here the great number comes ahead of the many periods.
        refused(self, (TooGreat, BILLION), sum_of, (1, (((1,), ()), ((2,), THIRTEEN))),
                (1, (((BILLION,), ((13,),)),)))
        refused(self, (TooGreat, 12), sum_of, (1, (((0,), THIRTEEN), ((1,), ()))), (1, (((BILLION,), ((13,),)),)))
        refused(self, (TooGreat, BILLION), sum_of, (1, (((1,), THIRTEEN),)), (1, (((BILLION,), ((13,),)),)))

    def test_star(self):
        self.assertEqual(star((2, ())), (2, (((0, 0), ()),)))
        self.assertEqual(star(value=(1, (((2,), ()),))), (1, (((0,), ()), ((2,), ((2,),)))))
        self.assertEqual(star((1, (((0,), ((3,),)),))), (1, (((0,), ()), ((0,), ((3,),)))))
        self.assertEqual(star((1, (((1,), ()), ((2,), ((5,),))))),
                         (1, (((0,), ()), ((1,), ((1,),)), ((2,), ((2,), (5,))), ((3,), ((1,), (2,), (5,))))))
        for many, one, _ in self.both(3603, 50):
            rows = {(0,) * many}
            for _ in range(6):
                rows |= {plus(a, b) for a in rows for b in slow_rows(one, 5) if max(plus(a, b)) <= 5}
            self.assertEqual(slow_rows(star(one), 5), rows)
        self.assertEqual(len(star((1, tuple(((1 << at,), ()) for at in range(8))))[1]), 256)
        refused(self, (TooGreat, 400), star, many_lines(9))
        refused(self, (TooGreat, 400), star, (1, tuple(((BILLION,), ((at,),)) for at in range(1, 10))))
        half = BILLION // 2
        self.assertEqual(len(star((1, (((half,), ()), ((half,), ((1,),)))))[1]), 4)
        refused(self, (TooGreat, BILLION), star, (1, (((half,), ()), ((half + 1,), ()))))
        self.assertEqual(len(star((1, (((12,), THIRTEEN[:6]), ((13,), ((7,), (8,), (9,), (10,))))))[1]), 4)
        refused(self, (TooGreat, 12), star, (1, (((12,), THIRTEEN[:6]), ((13,), ((7,), (8,), (9,), (10,), (11,))))))
        refused(self, (TooGreat, 12), star, (1, (((13,), THIRTEEN),)))
        # The choices (0, 1) and (0, 2) come ahead of (1,).
        refused(self, (TooGreat, BILLION), star, (1, (((1,), ()), ((3,), THIRTEEN[3:]), ((BILLION,), ()))))
        refused(self, (TooGreat, 12), star, (1, (((1,), ((40,),)), ((3,), THIRTEEN), ((BILLION,), ()))))
        refused(self, (TooGreat, BILLION), star, (1, (((1,), ()), ((BILLION,), ()), ((BILLION,), THIRTEEN))))

    def test_times(self):
        for many, one, _ in self.both(3604):
            for factor in (0, 1, 2, 3):
                rows = {tuple(factor * each for each in row) for row in slow_rows(one, 6)}
                self.assertEqual(slow_rows(times(one, factor), 6), {row for row in rows if max(row) <= 6})
        self.assertEqual(times(value=(1, (((1,), ((2,),)), ((2,), ((3,),)))), factor=0), (1, (((0,), ()),)))
        self.assertEqual(times((1, (((10 ** 6,), ((10 ** 6,),)),)), 1000), (1, (((BILLION,), ((BILLION,),)),)))
        refused(self, (TooGreat, BILLION), times, (1, (((10 ** 6 + 1,), ()),)), 1000)
        refused(self, (TooGreat, BILLION), times, (1, (((0,), ((1,), (10 ** 6 + 1,))),)), 1000)
        for factor in STRANGE + (1001,):
            refused(self, (BadParameter, factor), times, TIED, factor)
        refused(self, (BadSet, 0), times, None, None)

    def test_rearranged(self):
        for many, one, _ in self.both(3605):
            for places in ((0,), (many - 1, 0), (0, 0, many - 1, 0)):
                rows = {tuple(row[place] for place in places) for row in slow_rows(one, 5)}
                have = rearranged(one, places)
                self.assertEqual(have[0], len(places))
                if set(places) == set(range(many)):
                    self.assertEqual(slow_rows(have, 5), rows)
                self.assertTrue(rows <= slow_rows(have, 5))
        self.assertEqual(rearranged(value=(2, (((1, 2), ((0, 3), (1, 0))),)), places=(0,)), (1, (((1,), ((1,),)),)))
        self.assertEqual(rearranged((2, (((1, 2), ((0, 3),)), ((1, 3), ()))), (0,)), (1, (((1,), ()),)))
        self.assertEqual(rearranged((1, ()), (0, 0, 0, 0)), (4, ()))
        for places in ((), (0, 0, 0, 0, 0), (2,), (-1,), (True,), (0, False), [0], (0, 1.0), ("0",)):
            refused(self, (BadParameter, places), rearranged, (2, ()), places)
        refuses_strange(self, BadParameter, rearranged, (TIED,))
        refused(self, (BadSet, 0), rearranged, None, None)

    def test_widened(self):
        for many, one, _ in self.both(3606, 40):
            have = widened(one)
            self.assertEqual(slow_rows(have, 4), {row + (each,) for row in slow_rows(one, 4) for each in range(5)})
        self.assertEqual(widened(value=(1, (((2,), ((3,),)),))), (2, (((2, 0), ((0, 1), (3, 0))),)))
        self.assertEqual(widened((3, ())), (4, ()))
        refused(self, (BadWidth, 5), widened, (4, ()))
        self.assertEqual(len(widened((1, (((0,), THIRTEEN[:11]),)))[1][0][1]), 12)
        refused(self, (TooGreat, 12), widened, (1, (((0,), ()), ((0,), THIRTEEN))))
        refused(self, (BadSet, 0), widened, None)


class Common(unittest.TestCase):
    def test_rows(self):
        rand = make_rand(3607)
        some = 0
        for _ in range(200):
            many = rand.randint(1, 3)
            one, other = rand_set(rand, many, 2, 3, 2), rand_set(rand, many, 2, 3, 2)
            have = common(one, other)
            self.assertIs(need_set(have), have)
            self.assertEqual(slow_rows(have, 9), slow_rows(one, 9) & slow_rows(other, 9))
            some += bool(have[1])
        self.assertGreater(some, 20)

    def test_lines(self):
        self.assertEqual(common((2, (((1, 2), ()), ((3, 4), ()))), (2, (((3, 4), ()), ((5, 5), ())))),
                         (2, (((3, 4), ()),)))
        self.assertEqual(common(one=(1, (((0,), ((4,),)),)), other=(1, (((0,), ((6,),)),))), (1, (((0,), ((12,),)),)))
        self.assertEqual(common((1, (((1,), ((4,),)),)), (1, (((0,), ((6,),)),))), (1, ()))
        # The lines are told by the least and the ground solutions of these very equations.
        equations = (4, (("eq", (2, 3, -1, -4), 1), ("eq", (1, 0, -2, -1), 2)))
        line, other = ((5, 4), ((2, 1), (3, 0))), ((4, 2), ((1, 2), (4, 1)))
        steps = [plus(plus((0, 0), (2, 1), each[0]), (3, 0), each[1]) for each in ground(equations)]
        bases = [plus(plus((5, 4), (2, 1), each[0]), (3, 0), each[1]) for each in least(equations)]
        self.assertEqual(common((2, (line,)), (2, (other,))),
                         made_set(2, tuple((base, tuple(steps)) for base in bases)))

    def test_limits(self):
        def of(*lines):
            return (1, lines)
        twelve = ((0,), tuple((at,) for at in range(4, 16)))
        self.assertEqual(common(of(((BILLION,), ())), of(((0,), ()), ((BILLION,), ()))), of(((BILLION,), ())))
        refused(self, (TooGreat, 12), common, of(((0,), ((101,),))), of(((2000,), twelve[1])))
        refused(self, (TooGreat, 100), common, of(((0,), ((101,),))), of(((2000,), ())))
        refused(self, (TooGreat, 100), common, of(((0,), ())), of(((2000,), ((7,), (101,)))))
        refused(self, (TooGreat, 1000), common, of(((0,), ((100,),))), of(((1001,), ())))
        refused(self, (TooGreat, 1000), common, of(((1001,), ((100,),))), of(((0,), ())))
        self.assertEqual(common(of(((0,), ((100,),))), of(((1000,), ()))), of(((1000,), ())))
        self.assertEqual(common(of(((1000,), ((100,),))), of(((0,), ()))), of())
        self.assertEqual(common(of(((1,), ())), of(((0,), tuple((at,) for at in range(1, 13))))), of(((1,), ())))
        # 400 and 401 least solutions of x + 2 y = 798 and of x + 2 y = 800.
        self.assertEqual(common(of(((0,), ((1,), (2,)))), of(((798,), ()))), of(((798,), ())))
        refused(self, (TooGreat, 400), common, of(((0,), ((1,), (2,)))), of(((800,), ())))
        refused(self, (TooGreat, 400), common, of(((0,), ((1,), (2,))), ((0,), ((101,),))), of(((800,), ())))
        # Pairs of lines are looked at in turn: the first one's error comes.
        refused(self, (TooGreat, 100), common, of(((0,), ((101,),)), ((5000,), ((1,),))), of(((0,), ((1,),))))
        refused(self, (TooGreat, 1000), common, of(((0,), ((1,),)), ((5000,), ((101,),))), of(((4000,), ((1,),))))

    def test_great_results(self):
        near = (1, (((BILLION - 8,), ((100,),)),))
        refused(self, (TooGreat, BILLION), common, near, (1, (((BILLION - 8 + 1,), ((99,),)),)))
        self.assertEqual(common((1, (((BILLION - 100,), ((100,),)),)), (1, (((BILLION,), ()),))),
                         (1, (((BILLION,), ()),)))

    def test_what_is_made_is_too_much(self):
        def rays(count, way):
            return (2, tuple(sorted((((at, 0), ((0, 1),)) if way else ((0, at), ((1, 0),)) for at in range(count)))))
        # Each two rays have one row, the corner of the crossing.
        self.assertEqual(len(common(rays(20, True), rays(20, False))[1]), 400)
        refused(self, (TooGreat, 400), common, rays(21, True), rays(20, False))
        few, many = (1, (((0,), ((2,), (3,))),)), (1, (((0,), ((7,), (9,), (11,))),))
        steps = {(2 * a + 3 * b,) for a, b, *_ in ground((5, (("eq", (2, 3, -7, -9, -11), 0),)))}
        self.assertEqual([len(line[1]) for line in common(few, many)[1]], [len(steps)])
        self.assertLessEqual(len(steps), 12)
        more = (1, (((0,), ((17,), (19,), (23,))),))
        steps = {(9 * a + 11 * b,) for a, b, *_ in ground((5, (("eq", (9, 11, -17, -19, -23), 0),)))}
        self.assertGreater(len(steps), 12)
        refused(self, (TooGreat, 12), common, (1, (((0,), ((9,), (11,))),)), more)

    def test_wrong(self):
        refused(self, (Unlike, (2, ())), common, (1, ()), (2, ()))


class RowsTo(unittest.TestCase):
    def test_rows(self):
        rand = make_rand(3608)
        for _ in range(120):
            many = rand.randint(1, 4)
            value = rand_set(rand, many, 3, 3, 4 if many < 3 else 3)
            for most in (0, 1, 4):
                self.assertEqual(rows_to(value, most), tuple(sorted(slow_rows(value, most))))
        self.assertEqual(rows_to(value=(1, (((1,), ((7,),)),)), most=60), tuple((at,) for at in range(1, 61, 7)))
        self.assertEqual(rows_to((3, ()), 60), ())

    def test_limits(self):
        grid = (2, (((0, 0), ((0, 1), (1, 0))),))
        self.assertEqual(len(rows_to(grid, 43)), 1936)
        refused(self, (TooGreat, 2000), rows_to, grid, 44)
        # 50 times 40 rows, of one line or of two, some of them rows of both.
        self.assertEqual(len(rows_to(made_set(2, (((1, 0), ((1, 0), (0, 3))),)), 60)), 1260)
        self.assertEqual(len(rows_to((2, (((11, 21), ((0, 1), (1, 0))),)), 60)), 2000)
        refused(self, (TooGreat, 2000), rows_to, (2, (((11, 20), ((0, 1), (1, 0))),)), 60)
        parts = (2, (((11, 21), ((0, 1), (1, 0))), ((12, 20), ((0, 2), (1, 0)))))
        self.assertEqual(len(rows_to((2, parts[1][:1] + (((60, 60), ()),)), 60)), 2000)
        refused(self, (TooGreat, 2000), rows_to, (2, (((0, 0), ()), ((11, 21), ((0, 1), (1, 0))))), 60)
        refused(self, (TooGreat, 2000), rows_to, parts, 60)
        all_four = ((0, 0, 0, 1), (0, 0, 1, 0), (0, 1, 0, 0), (1, 0, 0, 0))
        refused(self, (TooGreat, 2000), rows_to, (4, (((0,) * 4, all_four),)), 60)

    def test_wrong(self):
        for most in STRANGE + (61,):
            refused(self, (BadParameter, most), rows_to, (1, (((0,), ((401,), (402,))),)), most)
        refused(self, (TooGreat, 400), rows_to, (1, (((0,), ((401,), (402,))),)), 60)
        refused(self, (BadSet, 0), rows_to, None, None)


if __name__ == "__main__":
    unittest.main()
