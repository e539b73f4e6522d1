"""Points 58 to 60: boards, markings and deeds, counts of deeds and their order, supports."""

import unittest
from itertools import product

from tests.helpers import NUMBER, STRANGE, Touchy, make_rand, refused
from tests.playing import BOARD, behind, orders, rand_board, rand_marking, slow_supports
from wholesay.boards import can_count, done, need_board, order, supports, walked
from wholesay.errors import BadBoard, BadDeed, BadIndex, BadRow, NoRow, TooGreat
from wholesay.reach import back, pairs, reached, unbounded
from wholesay.ways import fewest, is_no_way_paper, no_way_paper, way

GIVER = (1, ((None, (1,)), (0, (0,))))
MARKED = ((done, 1), (walked, 1), (can_count, 1), (order, 1), (supports, 0), (reached, 0), (back, 0), (unbounded, 0),
          (fewest, 1), (way, 1), (no_way_paper, 1), (is_no_way_paper, 2))


class Passed(unittest.TestCase):
    def test_boards(self):
        for value in (BOARD, GIVER, (4, ((3, (9, 9, 9, 9)),) * 6), (1, ((None, (0,)),)), (3, ((None, (0, 9, 0)),))):
            self.assertIs(need_board(value), value)
        self.assertEqual(need_board(value=BOARD), BOARD)

    def test_refused(self):
        calls = [(need_board, ()), (pairs, ())] + [(call, (None,) * (more + 1)) for call, more in MARKED]
        good = (None, (0, 0))
        for call, more in calls:
            for value in STRANGE + ((2,), (2, (), ()), [2, (good,)], Touchy()):
                refused(self, (BadBoard, ()), call, value, *more)
            for many in STRANGE + (0, 5, Touchy()):
                refused(self, (BadBoard, (0,)), call, (many, None), *more)
            for deeds in ((), (good,) * 7, [good], None, "0", (None,) * 7, Touchy()):
                refused(self, (BadBoard, (1,)), call, (2, deeds), *more)
            for deed in STRANGE + (
                    (0,), (0, (0, 0), 0), [0, (0, 0)], (2, (0, 0)), (-1, (0, 0)), (True, (0, 0)), (False, (0, 0)),
                    ("0", (0, 0)), (0.0, (0, 0)), (0, (0,)), (0, (0, 0, 0)), (0, [0, 0]), (0, None), (0, (0, 10)),
                    (0, (-1, 0)), (0, (True, 0)), (0, (0, 1.0)), ((), (0, 0)), (Touchy(), (0, 0)), (0, (Touchy(), 0))):
                refused(self, (BadBoard, (1, 0)), call, (2, (deed,)), *more)
                refused(self, (BadBoard, (1, 2)), call, (2, (good, good, deed, None)), *more)

    def test_markings(self):
        for call, more in MARKED:
            for value in STRANGE + ((1,), (1, 1, 1), [1, 1], (1, True), (1, -1), (1, NUMBER + 1), (Touchy(), 1)):
                refused(self, (BadRow, value), call, BOARD, value, *((None,) * more))


class Deeds(unittest.TestCase):
    def test_done(self):
        self.assertEqual(done(BOARD, (1, 0), 0), (0, 2))
        self.assertEqual(done(board=BOARD, marking=(0, 2), deed=1), (1, 1))
        self.assertEqual(done(GIVER, (0,), 0), (1,))
        self.assertEqual(done((2, ((0, (3, 1)),)), (1, 5), 0), (3, 6))
        refused(self, (NoRow,), done, BOARD, (0, 9), 0)
        refused(self, (NoRow,), done, BOARD, (NUMBER, 0), 1)
        refused(self, (NoRow,), done, (1, ((0, (9,)),)), (0,), 0)
        self.assertEqual(done(GIVER, (NUMBER,), 0), (NUMBER + 1,))
        self.assertEqual(done(GIVER, (NUMBER,), 1), (NUMBER - 1,))
        self.assertEqual(done((2, ((1, (9, 0)),)), (NUMBER, NUMBER), 0), (NUMBER + 9, NUMBER - 1))
        for deed in STRANGE + (2,):
            refused(self, (BadIndex, deed), done, BOARD, (0, 0), deed)

    def test_beside_a_slow_way(self):
        rand = make_rand(5801)
        for _ in range(100):
            board = rand_board(rand)
            marking = rand_marking(rand, board[0])
            row = []
            for _ in range(8):
                for number in range(len(board[1])):
                    there = behind(board, marking, number)
                    if there is None:
                        refused(self, (NoRow,), done, board, marking, number)
                        refused(self, (BadDeed, 0), walked, board, marking, (number, None))
                    else:
                        self.assertEqual(done(board, marking, number), there)
                        self.assertEqual(walked(board, marking, (number,)), there)
                fits = [k for k in range(len(board[1])) if behind(board, marking, k) is not None]
                if fits:
                    row.append(rand.choice(fits))
                    marking = behind(board, marking, row[-1])

    def test_walked(self):
        self.assertEqual(walked(BOARD, (1, 0), (0, 1, 0)), (0, 3))
        self.assertEqual(walked(board=BOARD, marking=(1, 0), deeds=()), (1, 0))
        self.assertEqual(walked(BOARD, (1, 0), (0, 1, 0, 1, 1, 1)), (3, 0))
        self.assertEqual(walked(GIVER, (NUMBER,), (0,) * 400), (NUMBER + 400,))
        refused(self, (TooGreat, 400), walked, GIVER, (0,), (0,) * 401)
        refused(self, (TooGreat, 400), walked, GIVER, (0,), (None,) * 401)
        self.assertEqual(walked(GIVER, (400,), (1,) * 400), (0,))
        refused(self, (BadDeed, 399), walked, GIVER, (399,), (1,) * 400)
        for deeds in STRANGE:
            if not isinstance(deeds, tuple):
                refused(self, (BadDeed, 0), walked, BOARD, (0, 0), deeds)
        refused(self, (BadDeed, 0), walked, BOARD, (1, 0), [0])
        for deed in STRANGE + (2, Touchy()):
            refused(self, (BadDeed, 2), walked, BOARD, (1, 0), (0, 1, deed))
        refused(self, (BadDeed, 1), walked, BOARD, (1, 0), (0, 0, None))
        refused(self, (BadDeed, 1), walked, BOARD, (1, 0), (0, None, 0))


class Counts(unittest.TestCase):
    def test_the_example(self):
        self.assertIs(can_count(BOARD, (1, 0), (2, 1)), True)
        self.assertEqual(order(BOARD, (1, 0), (2, 1)), (0, 1, 0))
        self.assertEqual(walked(BOARD, (1, 0), (0, 1, 0)), (0, 3))

    def test_all_orders(self):
        rand = make_rand(5901)
        seen = {True: 0, False: 0}
        for _ in range(120):
            board = rand_board(rand, 3, 4)
            marking = rand_marking(rand, board[0])
            for counts in product(range(3), repeat=len(board[1])):
                if sum(counts) > 6 or rand.random() < 0.5:
                    continue
                found = orders(board, marking, counts)
                seen[bool(found)] += 1
                self.assertIs(can_count(board, marking, counts), bool(found))
                if not found:
                    refused(self, (NoRow,), order, board, marking, counts)
                    continue
                # Each begin of the order is the least one that can be gone on with.
                self.assertEqual(order(board, marking, counts), found[0])
                self.assertEqual(walked(board, marking, found[0]), self.come_to(board, marking, counts))
        self.assertGreater(min(seen.values()), 300)

    def come_to(self, board, marking, counts):
        found = list(marking)
        for (taken, put), count in zip(board[1], counts):
            for place in range(board[0]):
                found[place] += count * (put[place] - (taken == place))
        return tuple(found)

    def test_fed_places(self):
        # The deeds 0 and 1 feed one another, but nothing feeds them.
        circle = (2, ((0, (0, 1)), (1, (1, 0)), (None, (1, 0))))
        self.assertIs(can_count(circle, (0, 0), (1, 1, 0)), False)
        self.assertIs(can_count(circle, (0, 0), (1, 1, 1)), True)
        self.assertIs(can_count(circle, (0, 1), (5, 5, 0)), True)
        self.assertIs(can_count(circle, (0, 0), (0, 0, 0)), True)
        self.assertIs(can_count(circle, (1, 0), (1, 2, 0)), False)
        self.assertIs(can_count(board=circle, marking=(0, 0), counts=(0, 1, 0)), False)
        self.assertEqual(order(board=circle, marking=(0, 0), counts=(1, 1, 1)), (2, 0, 1))
        self.assertEqual(order(circle, (0, 0), (0, 0, 0)), ())
        # Deed 0 alone can be done first, but the place 0 would be empty for good.
        stuck = (2, ((0, (0, 0)), (0, (1, 1)), (1, (0, 0))))
        self.assertEqual(order(stuck, (1, 0), (1, 2, 1)), (1, 1, 0, 2))
        self.assertEqual(order(stuck, (2, 0), (1, 2, 1)), (0, 1, 1, 2))

    def test_great_numbers(self):
        self.assertIs(can_count(GIVER, (0,), (NUMBER, NUMBER)), True)
        self.assertIs(can_count(GIVER, (NUMBER,), (0, NUMBER)), True)
        self.assertIs(can_count(GIVER, (NUMBER - 1,), (0, NUMBER)), False)
        self.assertIs(can_count(BOARD, (1, 0), (NUMBER // 2, NUMBER - 1)), True)
        self.assertIs(can_count(BOARD, (1, 0), (NUMBER // 2, NUMBER + 0)), True)
        self.assertIs(can_count(BOARD, (0, 1), (NUMBER, 1)), False)
        self.assertEqual(order(GIVER, (NUMBER,), (0, 400)), (1,) * 400)

    def test_limits(self):
        self.assertEqual(order(GIVER, (0,), (200, 200)), (0,) * 200 + (1,) * 200)
        refused(self, (TooGreat, 400), order, GIVER, (0,), (201, 200))
        refused(self, (TooGreat, 400), order, GIVER, (1,), (200, 201))
        refused(self, (TooGreat, 400), order, GIVER, (0,), (NUMBER, NUMBER))
        refused(self, (NoRow,), order, GIVER, (0,), (200, 201))
        refused(self, (NoRow,), order, GIVER, (0,), (0, NUMBER))

    def test_wrong(self):
        for call in (can_count, order):
            for counts in STRANGE + ((1,), (1, 1, 1), [1, 1], (1, True), (1, -1), (NUMBER + 1, 0), (0, 1.0),
                                     (Touchy(), 0)):
                refused(self, (BadRow, counts), call, BOARD, (1, 0), counts)
            refused(self, (BadRow, None), call, BOARD, None, (1,))


class Supports(unittest.TestCase):
    def test_beside_a_slow_way(self):
        self.assertEqual(supports(board=BOARD, marking=(1, 0)), ((0,), (0, 1)))
        self.assertEqual(supports(BOARD, (0, 0)), ())
        self.assertEqual(supports(BOARD, (NUMBER, NUMBER)), ((0,), (0, 1), (1,)))
        self.assertEqual(supports(GIVER, (0,)), ((0,), (0, 1)))
        self.assertEqual(len(supports((1, ((None, (0,)),) * 6), (0,))), 63)
        rand = make_rand(6001)
        for _ in range(200):
            board = rand_board(rand, 4, 6)
            marking = rand_marking(rand, board[0])
            found = supports(board, marking)
            self.assertEqual(found, slow_supports(board, marking))
            for support in found:
                ones = tuple(int(k in support) for k in range(len(board[1])))
                much = tuple(1000 * number for number in marking)
                self.assertLessEqual(can_count(board, marking, ones), can_count(board, much, ones))


if __name__ == "__main__":
    unittest.main()
