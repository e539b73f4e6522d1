"""Points 1, 2, 3, 8 (widths, names, rows, terms) and 9."""

import unittest

from tests.helpers import BILLION, NUMBER, make_rand, rand_term, refused, refuses_strange, same_value, term_value
from wholesay.errors import BadName, BadParameter, BadRow, BadTerm, BadWidth, TooGreat
from wholesay.terms import add_terms, make_term, names_of, need_many, need_name, need_numbers, need_row, need_term
from wholesay.terms import put_into_term, times_term, value_at



class Checks(unittest.TestCase):
    def test_widths(self):
        for many in (1, 2, 3, 4):
            self.assertTrue(same_value(need_many(many), many))
        for many in (0, 5, -1, True, 10 ** 5000):
            refused(self, (BadWidth, many), need_many, many)
        refuses_strange(self, BadWidth, need_many)
        refused(self, (BadWidth, 7), need_many, value=7)

    def test_names(self):
        for name in range(10):
            self.assertEqual(need_name(name), name)
        for name in (-1, 10, False, True):
            refused(self, (BadName, name), need_name, name)
        refuses_strange(self, BadName, need_name)

    def test_rows(self):
        self.assertEqual(need_row(3, (0, NUMBER, 5)), (0, NUMBER, 5))
        self.assertEqual(need_row(row=(4,), many=1), (4,))
        for row in ((0, NUMBER + 1), (0, -1), (0, True), (0,), (0, 0, 0), [0, 0], (0, 1.0), (0, None)):
            refused(self, (BadRow, row), need_row, 2, row)
        refuses_strange(self, BadRow, need_row, (3,))
        refuses_strange(self, BadWidth, need_row, (), ((0,),))
        refused(self, (BadWidth, 5), need_row, 5, "no row either")

    def test_numbers(self):
        for numbers in ((), (0,), tuple(range(10)), (NUMBER,) * 10):
            self.assertEqual(need_numbers(numbers), numbers)
        for numbers in ((0,) * 11, (NUMBER + 1,), (-1,), (True,), [1], (1, "1")):
            refused(self, (BadRow, numbers), need_numbers, numbers)
        refuses_strange(self, BadRow, need_numbers, let=((), (1,), (0, 0, 0, 0, 0, 0)))

    def test_terms(self):
        for term in ((0, ()), (BILLION, ((0, -BILLION), (9, BILLION))), (-BILLION, ((4, 1),))):
            self.assertEqual(need_term(term), term)
        bad = [(BILLION + 1, ()), (-BILLION - 1, ()), (True, ()), (0, ((0, 0),)), (0, ((0, BILLION + 1),)),
               (0, ((0, -BILLION - 1),)), (0, ((1, 1), (0, 1))), (0, ((0, 1), (0, 1))), (0, ((10, 1),)),
               (0, ((-1, 1),)), (0, ((True, 1),)), (0, ((0, True),)), (0, [(0, 1)]), (0, ([0, 1],)), (0,),
               (0, (), ()), (0, ((0, 1, 2),)), (0, (0, 1)), [0, ()], (0, None), (1.0, ())]
        for term in bad:
            refused(self, (BadTerm, term), need_term, term)
        refuses_strange(self, BadTerm, need_term)


class Terms(unittest.TestCase):
    def test_made(self):
        self.assertEqual(make_term(3), (3, ()))
        self.assertEqual(make_term(3, ((5, 1), (0, 2), (5, 4), (1, 3), (1, -3), (2, 0))), (3, ((0, 2), (5, 5))))
        self.assertEqual(make_term(pairs=((0, 1),), const=-BILLION), (-BILLION, ((0, 1),)))
        self.assertEqual(make_term(0, ((0, BILLION), (0, BILLION), (0, -BILLION))), (0, ((0, BILLION),)))
        refused(self, (TooGreat, BILLION), make_term, 0, ((0, BILLION), (0, 1)))
        refused(self, (TooGreat, BILLION), make_term, 0, ((0, -BILLION), (0, -1)))

    def test_made_of_what_is_wrong(self):
        refuses_strange(self, BadTerm, make_term, let=(-1,))
        for const in (BILLION + 1, -BILLION - 1):
            refused(self, (BadTerm, const), make_term, const, "no pairs either")
        refuses_strange(self, BadTerm, make_term, (0,), let=((),))
        for pairs in (((0, BILLION + 1),), ((10, 1),), ((0, True),), ((False, 1),), ([0, 1],), ((0, 1, 1),), [(0, 1)]):
            refused(self, (BadTerm, pairs), make_term, 0, pairs)
        refused(self, (BadTerm, ((0, BILLION), (0, 1), 7)), make_term, 0, ((0, BILLION), (0, 1), 7))

    def test_names_and_values(self):
        self.assertEqual(names_of((1, ())), ())
        self.assertEqual(names_of(term=(1, ((2, 1), (7, -4)))), (2, 7))
        self.assertEqual(value_at((1, ((0, 2), (1, -3))), (5, 7)), -10)
        self.assertEqual(value_at((1, ((1, 2),)), (NUMBER, NUMBER, 3)), 2 * NUMBER + 1)
        self.assertEqual(value_at((1, ()), ()), 1)
        refused(self, (BadRow, (5,)), value_at, (1, ((1, 2),)), (5,))
        refused(self, (BadTerm, 0), value_at, 0, 0)
        refused(self, (BadRow, (True,)), value_at, (0, ()), (True,))
        refuses_strange(self, BadTerm, names_of)
        refuses_strange(self, BadTerm, value_at, (), ((),))
        refuses_strange(self, BadRow, value_at, ((1, ((7, 2),)),))

    def test_sums(self):
        self.assertEqual(add_terms((1, ((0, 2), (3, 1))), (4, ((0, -2), (1, 5)))), (5, ((1, 5), (3, 1))))
        self.assertEqual(add_terms((BILLION - 1, ()), (1, ())), (BILLION, ()))
        refused(self, (TooGreat, BILLION), add_terms, (BILLION, ()), (1, ()))
        refused(self, (TooGreat, BILLION), add_terms, (0, ((0, -BILLION),)), (0, ((0, -1),)))
        refuses_strange(self, BadTerm, add_terms, (), (5,))
        refuses_strange(self, BadTerm, add_terms, ((BILLION, ()),))

    def test_products(self):
        self.assertEqual(times_term((1, ((0, 2),)), -3), (-3, ((0, -6),)))
        self.assertEqual(times_term((1, ((0, 2),)), 0), (0, ()))
        self.assertEqual(times_term(factor=BILLION, term=(1, ((0, -1),))), (BILLION, ((0, -BILLION),)))
        refused(self, (TooGreat, BILLION), times_term, (2, ()), BILLION)
        refused(self, (TooGreat, BILLION), times_term, (0, ((4, 2),)), -BILLION)
        for factor in (BILLION + 1, -BILLION - 1, True):
            refused(self, (BadParameter, factor), times_term, (0, ()), factor)
        refuses_strange(self, BadParameter, times_term, ((1, ()),), let=(-1,))
        refuses_strange(self, BadTerm, times_term, (), ("x",))

    def test_put_into(self):
        self.assertEqual(put_into_term((1, ((0, 2), (1, 3))), 0, (-4, ((1, -1),))), (-7, ((1, 1),)))
        self.assertEqual(put_into_term((1, ((0, 2),)), 5, (-4, ((1, -1),))), (1, ((0, 2),)))
        self.assertEqual(put_into_term((0, ((0, 2),)), 0, (3, ((0, 1), (9, 2)))), (6, ((0, 2), (9, 4))))
        # Only what is returned counts: the sums on the way are greater.
        self.assertEqual(put_into_term((-BILLION, ((0, 2),)), 0, (BILLION, ())), (BILLION, ()))
        refused(self, (TooGreat, BILLION), put_into_term, (1, ((0, 1),)), 0, (BILLION, ()))
        refused(self, (TooGreat, BILLION), put_into_term, (0, ((0, 2), (1, 1))), 0, (0, ((1, BILLION // 2),)))
        refuses_strange(self, BadTerm, put_into_term, (), (10, 10))
        refuses_strange(self, BadName, put_into_term, ((0, ()),), (10,))
        refuses_strange(self, BadTerm, put_into_term, ((0, ()), 0))

    def test_values_of_sums_and_products(self):
        rand = make_rand(9)
        for _ in range(300):
            one, other = rand_term(rand, range(4), 50, 50), rand_term(rand, range(4), 50, 50)
            numbers = tuple(rand.choice((rand.randint(0, 9), rand.randint(0, NUMBER))) for _ in range(4))
            factor = rand.randint(-9, 9)
            value, more = term_value(one, numbers), term_value(other, numbers)
            self.assertEqual(value_at(one, numbers), value)
            self.assertEqual(value_at(add_terms(one, other), numbers), value + more)
            self.assertEqual(value_at(times_term(one, factor), numbers), value * factor)
            if more >= 0:
                put = term_value(one, numbers[:2] + (more,) + numbers[3:])
                self.assertEqual(value_at(put_into_term(one, 2, other), numbers), put)
            for made in (add_terms(one, other), times_term(one, factor), put_into_term(one, 2, other)):
                self.assertEqual(need_term(made), made)


if __name__ == "__main__":
    unittest.main()
