"""Point 61: what is reached, led back to, all pairs, unbounded places."""

import unittest
from itertools import product

from tests.helpers import NUMBER, make_rand, refused
from tests.playing import (
    BOARD, gains, least_spots, led_back, played, rand_board, rand_marking, slow_supports, small_markings)
from tests.test_boards import GIVER
from tests.trying import plus
from wholesay.boards import walked
from wholesay.errors import TooGreat, Unlike
from wholesay.leasts import ground, least
from wholesay.lines import made_set, need_set
from wholesay.linework import has
from wholesay.reach import back, pairs, reached, unbounded
from wholesay.ways import way



def values(rows, numbers, const=True):
    return tuple((row[2] if const else 0) + sum(a * b for a, b in zip(row[1], numbers)) for row in rows)


def slow_reached(board, marking):
    """The set of the document, each equation put down as it is told there."""
    lines = [(marking, ())]
    for support in slow_supports(board, marking):
        rows = [("ge", gains(board, support, p), marking[p] + sum(gains(board, support, p))) for p in range(board[0])]
        equations = (len(support), tuple(rows))
        steps = tuple(values(rows, each, False) for each in ground(equations))
        lines += [(values(rows, each), steps) for each in least(equations)]
    return made_set(board[0], tuple(lines))


def unit(many, place):
    return tuple(int(each == place) for each in range(many))


def with_spots(board):
    some = [each for each in product((0, 1), repeat=len(board[1])) if any(each)]
    for marks in some:
        support = tuple(k for k, mark in enumerate(marks) if mark)
        for spots in least_spots(board, support):
            yield support, tuple(int(p in spots) for p in range(board[0]))


def slow_back(board, marking):
    many = board[0]
    lines = [(marking, ())]
    for support, ones in with_spots(board):
        rows = [("eq", unit(many, p) + gains(board, support, p),
                 sum(gains(board, support, p)) - marking[p] + ones[p]) for p in range(many)]
        equations = (many + len(support), tuple(rows))
        steps = tuple(each[:many] for each in ground(equations))
        lines += [(plus(each[:many], ones), steps) for each in least(equations)]
    return made_set(many, tuple(lines))


def slow_pairs(board):
    many = board[0]
    lines = [((0,) * (2 * many), tuple(unit(many, p) * 2 for p in range(many)))]
    for support, ones in with_spots(board):
        rows = [("ge", unit(many, p) + gains(board, support, p), sum(gains(board, support, p)) + ones[p])
                for p in range(many)]
        equations = (many + len(support), tuple(rows))
        steps = tuple(each[:many] + values(rows, each, False) for each in ground(equations))
        lines += [(plus(each[:many], ones) + values(rows, each), steps) for each in least(equations)]
    return made_set(2 * many, tuple(lines))


class Reached(unittest.TestCase):
    def test_a_board(self):
        self.assertEqual(reached(BOARD, (1, 0)), (2, (
            ((0, 2), ()), ((0, 3), ((0, 1), (1, 0))), ((1, 0), ()), ((1, 1), ((0, 1), (1, 0))),
            ((2, 0), ((0, 1), (1, 0))))))
        self.assertEqual(reached(board=BOARD, marking=(0, 0)), (2, (((0, 0), ()),)))
        self.assertEqual(reached(GIVER, (0,)), (1, (((0,), ()), ((0,), ((1,),)), ((1,), ((1,),)))))
        self.assertEqual(reached((1, ((0, (0,)),)), (3,)), (1, (((0,), ()), ((1,), ()), ((2,), ()), ((3,), ()))))

    def test_beside_the_words_of_the_document(self):
        rand = make_rand(6101)
        for _ in range(150):
            board = rand_board(rand)
            marking = rand_marking(rand, board[0], 3)
            try:
                value = reached(board, marking)
            except TooGreat:
                continue
            self.assertIs(need_set(value), value)
            self.assertEqual(value, slow_reached(board, marking))

    def test_what_is_played_is_reached(self):
        rand = make_rand(6102)
        near = 0
        for _ in range(100):
            board = rand_board(rand, 3, 4)
            marking = rand_marking(rand, board[0])
            value = reached(board, marking)
            there = played(board, marking, 5)
            try:
                has(value, marking)
            except TooGreat:
                continue
            for row in small_markings(board[0], 3):
                if row in there:
                    near += 1
                    self.assertIs(has(value, row), True, (board, marking, row))
                elif has(value, row):
                    # Led to by way of greater markings.
                    self.assertEqual(walked(board, marking, way(board, marking, row)), row)
        self.assertGreater(near, 300)

    def test_rows_of_lines_are_played(self):
        rand = make_rand(6103)
        for _ in range(80):
            board = rand_board(rand, 3, 4)
            marking = rand_marking(rand, board[0])
            for base, periods in reached(board, marking)[1][:6]:
                for period in periods:
                    base = plus(base, period, rand.randint(0, 3))
                if max(base) <= 100:
                    self.assertEqual(walked(board, marking, way(board, marking, base)), base)

    def test_unbounded(self):
        self.assertEqual(unbounded(BOARD, (1, 0)), (0, 1))
        self.assertEqual(unbounded(BOARD, (0, 0)), ())
        self.assertEqual(unbounded(board=(2, ((0, (0, 1)), (0, (1, 1)))), marking=(1, 0)), (1,))
        self.assertEqual(unbounded((3, ((None, (0, 0, 0)), (1, (1, 1, 0)))), (5, 1, 5)), (0,))
        self.assertEqual(unbounded((3, ((None, (0, 0, 0)), (1, (1, 1, 0)))), (5, 0, 5)), ())
        rand = make_rand(6104)
        for _ in range(60):
            board = rand_board(rand, 3, 4)
            marking = rand_marking(rand, board[0])
            there = played(board, marking, 12)
            for place in range(board[0]):
                if place in unbounded(board, marking):
                    self.assertTrue(self.grows(board, marking, place), (board, marking, place))
                else:
                    top = max(base[place] for base, _ in reached(board, marking)[1])
                    self.assertLessEqual(max(row[place] for row in there), top)

    def grows(self, board, marking, place):
        """Whether a way leads to a marking with a period taken many times."""
        for base, periods in reached(board, marking)[1]:
            for period in periods:
                if period[place]:
                    row = plus(base, period, 10)
                    return row[place] > 9 and walked(board, marking, way(board, marking, row)) == row
        return False


class Back(unittest.TestCase):
    def test_a_board(self):
        self.assertEqual(back(BOARD, (0, 3)), (2, tuple((row, ()) for row in ((0, 1), (0, 2), (0, 3), (1, 0), (1, 1)))))
        self.assertEqual(back(board=(1, ((0, (0,)),)), marking=(2,)), (1, (((2,), ()), ((3,), ((1,),)))))
        # From anywhere the one token can be put; none need be there.
        self.assertEqual(back((1, ((None, (1,)),)), (2,)), (1, (((0,), ()), ((1,), ()), ((2,), ()))))

    def test_beside_the_words_of_the_document(self):
        rand = make_rand(6105)
        for _ in range(100):
            board = rand_board(rand, 3, 4)
            marking = rand_marking(rand, board[0], 3)
            value = back(board, marking)
            self.assertIs(need_set(value), value)
            self.assertEqual(value, slow_back(board, marking))

    def test_what_leads_there(self):
        rand = make_rand(6106)
        near = 0
        for _ in range(100):
            board = rand_board(rand, 3, 4)
            marking = rand_marking(rand, board[0])
            value = back(board, marking)
            there = led_back(board, marking, 5)
            for row in small_markings(board[0], 3):
                if row in there:
                    near += 1
                    self.assertIs(has(value, row), True, (board, marking, row))
                elif has(value, row):
                    self.assertEqual(walked(board, row, way(board, row, marking)), marking)
            for base, periods in value[1][:6]:
                for period in periods:
                    base = plus(base, period, rand.randint(0, 3))
                if max(base) <= 100:
                    self.assertEqual(walked(board, base, way(board, base, marking)), marking)
        self.assertGreater(near, 300)


class Pairs(unittest.TestCase):
    def test_a_board(self):
        self.assertEqual(pairs(board=(1, ((0, (0,)),))), (2, (
            ((0, 0), ((1, 1),)), ((1, 0), ((1, 0), (1, 1))))))
        self.assertEqual(pairs((1, ((None, (2,)),))), (2, (((0, 0), ((1, 1),)), ((0, 2), ((0, 2), (1, 1))))))

    def test_beside_the_words_of_the_document(self):
        rand = make_rand(6107)
        for _ in range(80):
            board = rand_board(rand, 2, 4)
            value = pairs(board)
            self.assertIs(need_set(value), value)
            self.assertEqual(value, slow_pairs(board))

    def test_one_way_and_the_other(self):
        rand = make_rand(6108)
        both = {True: 0, False: 0}
        for _ in range(50):
            board = rand_board(rand, 2, 4)
            value = pairs(board)
            for first in small_markings(board[0], 2):
                to = reached(board, first)
                for last in small_markings(board[0], 2):
                    try:
                        truth = has(value, first + last)
                    except TooGreat:
                        continue
                    both[truth] += 1
                    self.assertIs(has(to, last), truth)
                    self.assertIs(has(back(board, last), first), truth)
        self.assertGreater(min(both.values()), 100)
        self.assertIs(has(pairs(BOARD), (1, 0, NUMBER, NUMBER)), True)
        self.assertIs(has(pairs(BOARD), (NUMBER, NUMBER, 1, 0)), False)
        self.assertIs(has(pairs(BOARD), (NUMBER // 2, 0, 0, NUMBER)), True)
        self.assertIs(has(pairs(BOARD), (NUMBER, 0, 0, NUMBER)), False)

    def test_two_places(self):
        refused(self, (Unlike, 3), pairs, (3, ((None, (1, 1, 1)),)))
        refused(self, (Unlike, 4), pairs, (4, ((None, (1, 0, 0, 0)),)))
        pairs((2, ((None, (1, 0)),)))


class Limits(unittest.TestCase):
    def test_100_tokens(self):
        for call in (reached, back, unbounded):
            call((2, BOARD[1][:1]), (0, 100))
            refused(self, (TooGreat, 100), call, BOARD, (0, 101))
            refused(self, (TooGreat, 100), call, BOARD, (101, 0))
            refused(self, (TooGreat, 100), call, BOARD, (NUMBER, 0))
        self.assertEqual(len(reached((1, ((0, (0,)),)), (100,))[1]), 101)

    def test_400_solutions(self):
        # 400 and 401 least and ground solutions of the greatest support, of much fewer lines.
        self.assertEqual(len(reached((1, ((0, (0,)),) * 3 + ((0, (8,)), (0, (0,)))), (1,))[1]), 11)
        refused(self, (TooGreat, 400), reached,
                (1, ((None, (6,)), (0, (0,)), (None, (5,)), (0, (1,)), (0, (0,)))), (16,))
        self.assertEqual(len(reached((1, ((0, (0,)),) * 2), (28,))[1]), 29)
        for call in (reached, unbounded):
            refused(self, (TooGreat, 400), call, (1, ((0, (0,)),) * 2), (29,))
        self.assertEqual(len(back((2, ((1, (1, 0)), (0, (1, 0)), (0, (0, 3)), (1, (1, 0)), (0, (1, 0)))), (13, 0))[1]), 56)
        refused(self, (TooGreat, 400), back,
                (2, ((1, (1, 0)), (1, (0, 0)), (0, (1, 9)), (1, (0, 0)), (1, (0, 0)))), (18, 0))
        self.assertEqual(len(pairs((1, ((0, (0,)),) * 3 + ((None, (7,)), (0, (6,)))))[1]), 25)
        refused(self, (TooGreat, 400), pairs, (1, ((None, (9,)),) + ((0, (0,)),) * 5))

    def test_12_periods(self):
        def most(value):
            return max(len(line[1]) for line in value[1])
        self.assertEqual(most(reached((2, ((0, (0, 7)), (1, (6, 0)))), (0, 1))), 12)
        for call in (reached, unbounded):
            refused(self, (TooGreat, 12), call, (2, ((0, (0, 6)), (1, (8, 0)))), (1, 1))
        self.assertEqual(most(pairs((2, ((0, (0, 0)), (1, (9, 1)))))), 12)
        refused(self, (TooGreat, 12), pairs, (2, ((0, (7, 9)), (1, (0, 0)))))

    def test_400_lines(self):
        self.assertEqual(len(reached((2, ((0, (0, 0)), (1, (1, 3)), (0, (0, 2)))), (18, 1))[1]), 400)
        for call in (reached, unbounded):
            refused(self, (TooGreat, 400), call, (2, ((0, (0, 1)), (1, (0, 0)), (1, (4, 0)), (None, (0, 0)))), (17, 0))
        self.assertEqual(len(back((2, ((None, (1, 0)), (None, (0, 1)))), (19, 19))[1]), 400)
        refused(self, (TooGreat, 400), back, (2, ((1, (1, 0)), (1, (1, 1)), (1, (0, 0)))), (19, 0))

    def test_the_order_of_errors(self):
        # 416 lines, some of them with 13 periods.
        deeds = ((None, (9, 0, 0)), (None, (2, 0, 0)), (0, (0, 1, 0)), (2, (0, 0, 0)))
        refused(self, (TooGreat, 12), reached, (3, deeds), (0, 0, 15))
        # The support (0, 1, 2) has 13 periods, (3, 4) too many solutions.
        refused(self, (TooGreat, 400), reached, (3, deeds + ((2, (0, 0, 0)),)), (0, 0, 29))
        refused(self, (TooGreat, 100), reached, (3, deeds + ((2, (0, 0, 0)),)), (0, 0, 101))


if __name__ == "__main__":
    unittest.main()
