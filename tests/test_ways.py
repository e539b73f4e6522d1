"""Point 62: the fewest deeds, ways, papers that there is no way."""

import unittest

from tests.helpers import NUMBER, STRANGE, Touchy, make_rand, refused
from tests.playing import BOARD, gains, played, rand_board, rand_marking, slow_fewest, slow_supports, small_markings
from tests.test_boards import GIVER
from wholesay.boards import can_count, order, supports, walked
from wholesay.errors import BadBoard, BadRow, NoRow, TooGreat, Unlike
from wholesay.linework import has
from wholesay.reach import reached
from wholesay.unsolved import is_unsolved_paper, unsolved_paper
from wholesay.ways import fewest, is_no_way_paper, no_way_paper, way

PAPER = (("bar", (0, -1)), ("bar", (-2, -1)))


def equations_for(board, first, last, support):
    return (len(support), tuple(
        ("eq", gains(board, support, p), first[p] - last[p] + sum(gains(board, support, p))) for p in range(board[0])))


class Fewest(unittest.TestCase):
    def test_the_example(self):
        self.assertEqual(fewest(BOARD, (1, 0), (0, 3)), (2, 1))
        self.assertEqual(way(BOARD, (1, 0), (0, 3)), (0, 1, 0))
        refused(self, (NoRow,), fewest, BOARD, (1, 0), (0, 0))
        refused(self, (NoRow,), way, BOARD, (1, 0), (0, 0))

    def test_beside_trying(self):
        rand = make_rand(6201)
        seen = {True: 0, False: 0}
        for _ in range(80):
            board = rand_board(rand, 3, 4)
            first = rand_marking(rand, board[0])
            try:
                value = reached(board, first)
            except TooGreat:
                value = None
            for last in small_markings(board[0], 2):
                counts = slow_fewest(board, first, last, 4)
                seen[counts is not None] += 1
                if counts is not None:
                    self.assertEqual(fewest(board, first, last), counts)
                    self.assertEqual(way(board=board, first=first, last=last), order(board, first, counts))
                    self.assertEqual(walked(board, first, way(board, first, last)), last)
                    refused(self, (Unlike, counts), no_way_paper, board, first, last)
                    continue
                try:
                    counts = fewest(board, first, last)
                except NoRow:
                    self.assertNotIn(last, played(board, first, 6))
                    self.assertTrue(value is None or not has(value, last))
                    refused(self, (NoRow,), way, board, first, last)
                    self.assertIs(is_no_way_paper(board, first, last, no_way_paper(board, first, last)), True)
                else:
                    self.assertGreater(sum(counts), 4)
                    self.assertIs(can_count(board, first, counts), True)
                    self.assertEqual(walked(board, first, way(board, first, last)), last)
        self.assertGreater(min(seen.values()), 150)

    def test_the_first_of_the_fewest(self):
        both = (2, ((0, (0, 1)), (None, (0, 0)), (0, (0, 1)), (0, (0, 2))))
        self.assertEqual(fewest(board=both, first=(2, 0), last=(0, 2)), (0, 0, 2, 0))
        self.assertEqual(fewest(both, (2, 0), (0, 3)), (0, 0, 1, 1))
        self.assertEqual(way(both, (2, 0), (0, 3)), (2, 3))
        self.assertEqual(fewest(both, (5, 7), (5, 7)), (0, 0, 0, 0))
        self.assertEqual(way(both, (5, 7), (5, 7)), ())
        # 5, 5, 5, 5, 5 and 2, 2, 5, 8, 8 make 25; four deeds do not.
        coins = (1, ((None, (2,)), (None, (5,)), (None, (8,))))
        self.assertEqual(fewest(coins, (0,), (25,)), (0, 5, 0))
        for last in range(2, 101):
            made = [(a, b, c) for a in range(51) for b in range(21) for c in range(13) if 2 * a + 5 * b + 8 * c == last]
            best = min(made, key=lambda each: (sum(each), each)) if made else None
            if best is not None:
                self.assertEqual(fewest(coins, (0,), (last,)), best)

    def test_not_connected(self):
        # The deeds would come to the marking, but none of them can be the first.
        circle = (2, ((0, (0, 2)), (1, (1, 0))))
        refused(self, (NoRow,), fewest, circle, (0, 0), (1, 1))
        self.assertEqual(supports(circle, (0, 0)), ())
        self.assertEqual(no_way_paper(circle, (0, 0), (1, 1)), ())
        self.assertIs(is_no_way_paper(circle, (0, 0), (1, 1), ()), True)
        self.assertIs(is_no_way_paper(circle, (0, 0), (0, 0), ()), False)

    def test_limits(self):
        self.assertEqual(fewest(GIVER, (0,), (100,)), (100, 0))
        self.assertEqual(way(GIVER, (100,), (0,)), (1,) * 100)
        for call in (fewest, way, no_way_paper):
            refused(self, (TooGreat, 100), call, GIVER, (0,), (101,))
            refused(self, (TooGreat, 100), call, GIVER, (101,), (0,))
            refused(self, (TooGreat, 100), call, GIVER, (NUMBER,), (NUMBER,))
        # C(28, 2) and C(30, 2) ways to share the tokens out among three deeds, each done once at least.
        share = (1, ((0, (0,)), (0, (0,)), (0, (0,))))
        self.assertEqual(fewest(share, (29,), (0,)), (0, 0, 29))
        self.assertEqual(fewest(share, (29,), (29,)), (0, 0, 0))
        for call in (fewest, way, no_way_paper):
            refused(self, (TooGreat, 400), call, share, (31,), (0,))
            # There is no way, but C(13, 4) ground solutions are told first; also if no deed need be done.
            idle = (2, ((None, (9, 0)),) + ((0, (0, 0)),) * 5)
            refused(self, (TooGreat, 400), call, idle, (0, 0), (0, 1))
            refused(self, (TooGreat, 400), call, idle, (0, 0), (0, 0))
        many = (2, ((0, (9, 0)), (0, (0, 9)), (1, (0, 0)), (0, (0, 0))))
        counts = fewest(many, (1, 0), (100, 100))
        self.assertEqual(walked(many, (1, 0), way(many, (1, 0), (100, 100))), (100, 100))
        self.assertLess(sum(counts), 60)
        # More than 400 deeds: nine tokens at once, all of them to be taken again.
        far = (2, ((0, (0, 9)), (1, (0, 0))))
        self.assertEqual(fewest(far, (100, 0), (0, 0)), (100, 900))
        refused(self, (TooGreat, 400), way, far, (100, 0), (0, 0))
        self.assertEqual(len(way(far, (40, 0), (0, 0))), 400)
        refused(self, (TooGreat, 400), way, far, (40, 1), (0, 0))

    def test_wrong(self):
        for call, more in ((fewest, ()), (way, ()), (no_way_paper, ()), (is_no_way_paper, (None,))):
            refused(self, (BadBoard, ()), call, None, None, None, *more)
            refused(self, (BadRow, None), call, BOARD, None, None, *more)
            for last in STRANGE + ((1,), (1, 1, 1), [1, 1], (1, True), (1, -1), (1, NUMBER + 1), (Touchy(), 1)):
                refused(self, (BadRow, last), call, BOARD, (101, 0), last, *more)
            refused(self, (TooGreat, 100), call, BOARD, (101, 0), (0, 0), *more)
            refused(self, (TooGreat, 100), call, BOARD, (0, 0), (0, 101), *more)


class Papers(unittest.TestCase):
    def test_the_example(self):
        self.assertEqual(supports(BOARD, (1, 0)), ((0,), (0, 1)))
        self.assertIs(is_no_way_paper(BOARD, (1, 0), (0, 0), no_way_paper(BOARD, (1, 0), (0, 0))), True)
        self.assertIs(is_no_way_paper(board=BOARD, first=(1, 0), last=(0, 0), paper=PAPER), True)
        self.assertEqual(len(no_way_paper(board=BOARD, first=(1, 0), last=(0, 0))), 2)

    def test_papers_for_each_support(self):
        rand = make_rand(6202)
        given = 0
        for _ in range(80):
            board = rand_board(rand, 3, 4)
            first, last = rand_marking(rand, board[0]), rand_marking(rand, board[0], 4)
            try:
                paper = no_way_paper(board, first, last)
            except Unlike as told:
                self.assertEqual(told.value, fewest(board, first, last))
                if first != last:
                    self.assertFalse(self.any_paper(board, first, last))
                continue
            given += 1
            some = slow_supports(board, first)
            self.assertEqual(len(paper), len(some))
            for support, each in zip(some, paper):
                self.assertIs(is_unsolved_paper(equations_for(board, first, last, support), each), True)
            self.assertIs(is_no_way_paper(board, first, last, paper), True)
            if paper:
                self.assertIs(is_no_way_paper(board, first, last, paper[1:]), False)
                self.assertIs(is_no_way_paper(board, first, last, paper + paper[:1]), False)
                self.assertIs(is_no_way_paper(board, first, last, paper[:-1] + (None,)), False)
                self.assertIs(is_no_way_paper(board, first, last, list(paper)), False)
        self.assertGreater(given, 20)

    def any_paper(self, board, first, last):
        """Whether the equations of all connected supports have papers."""
        for support in slow_supports(board, first):
            try:
                unsolved_paper(equations_for(board, first, last, support))
            except Unlike:
                return False
        return True

    def test_any_value(self):
        for paper in STRANGE + (Touchy(), (Touchy(), Touchy()), PAPER[::-1], PAPER[:1], PAPER * 2, list(PAPER),
                                (("bar", (0, -1)), ("bar", (-3, -1))), (("bar", (0, 1)), PAPER[1]), (None, PAPER[1]),
                                (PAPER[0], ("bar", (-2, -1, 0))), (PAPER[0], ("bar", [-2, -1])), "ab"):
            self.assertIs(is_no_way_paper(BOARD, (1, 0), (0, 0), paper), False)
        for paper in (PAPER, (), None, ((), ())):
            self.assertIs(is_no_way_paper(BOARD, (1, 0), (1, 0), paper), False)
            self.assertIs(is_no_way_paper(BOARD, (1, 0), (0, 3), paper), False)

    def test_cases_and_rests(self):
        # Twos and threes do not make one; twos alone no odd number.
        coins = (1, ((None, (5,)), (None, (7,))))
        for last in range(1, 101):
            made = any((last - 5 * k) % 7 == 0 for k in range(last // 5 + 1))
            if made:
                self.assertEqual(walked(coins, (0,), way(coins, (0,), (last,))), (last,))
            else:
                paper = no_way_paper(coins, (0,), (last,))
                self.assertIs(is_no_way_paper(coins, (0,), (last,), paper), True)
                self.assertIs(is_no_way_paper(coins, (0,), (last + 5,), paper), False)


if __name__ == "__main__":
    unittest.main()
