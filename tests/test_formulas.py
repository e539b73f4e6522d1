"""Points 4, 8 (formulas), 10 and 11."""

import unittest

from tests.helpers import ALWAYS, BILLION, NUMBER, STRANGE, by_names, eq, ge, make_rand, nots, rand_formula
from tests.helpers import rand_term, refused, refuses_strange, term_value, tried
from wholesay.errors import BadFormula, BadIndex, BadName, BadRow, BadTerm, BadWidth, NotPlain, TooGreat
from wholesay.formulas import free_names, holds_at, is_plain, measures, need_formula, need_plain, need_wide
from wholesay.formulas import part_at, parts_of, put_at, put_in, same_but_bound, trade_names
from wholesay.terms import put_into_term

X = ("ge", (0, ((0, 1),)))
Y = ("eq", (0, ((1, 1),)))


class Checks(unittest.TestCase):
    def test_all_forms(self):
        whole = ("and", (X, ("mod", 2, (1, ((3, 1),))), ("not", Y), ("or", ()), ("some", 0, X), ("all", 9, ("or", (X,)))))
        self.assertEqual(need_formula(whole), whole)
        self.assertEqual(need_formula(("mod", 10 ** 6, (BILLION, ()))), ("mod", 10 ** 6, (BILLION, ())))

    def test_the_example(self):
        refused(self, (BadFormula, (1, 1, 1)), need_formula, ("and", (("ge", (0, ())), ("not", 5))))

    def test_what_is_none(self):
        bad = [("mod", 1, (0, ())), ("mod", 10 ** 6 + 1, (0, ())), ("mod", True, (0, ())), ("mod", (0, ())), ("ge", 0),
               ("ge", (BILLION + 1, ())), ("eq", (0, ()), ()), ("not",), ("not", X, X), ("and", [X]), ("and", X, X),
               ("or", None), ("some", 10, X), ("some", True, X), ("some", X), ("all", -1, X), ("ge",), ("gt", (0, ())),
               (0, (0, ())), [X], ["ge", (0, ())], ("GE", (0, ())), ("mod", 2.0, (0, ())), ("some", "0", X)]
        for value in bad + list(STRANGE):
            refused(self, (BadFormula, ()), need_formula, value)
            refused(self, (BadFormula, (2,)), need_formula, ("some", 3, value))
            refused(self, (BadFormula, (1, 1, 1)), need_formula, ("or", (X, ("not", value), value)))

    def test_a_whole_is_told_ahead_of_its_parts(self):
        refused(self, (BadFormula, ()), need_formula, ("some", 10, ("not", 5)))
        refused(self, (BadFormula, (1, 0, 1)), need_formula, ("and", (("not", 5), 6)))
        refused(self, (BadFormula, (1, 1)), need_formula, ("and", (("not", X), 6, ("not", 5))))

    def test_deep(self):
        self.assertEqual(need_formula(nots(19, X)), nots(19, X))
        refused(self, (TooGreat, 20), need_formula, nots(20, X))
        # The depth is told ahead of what stands there.
        refused(self, (BadFormula, (1,) * 19), need_formula, nots(19, 5))
        refused(self, (TooGreat, 20), need_formula, nots(20, 5))
        refused(self, (TooGreat, 20), need_formula, nots(5000, X))
        refused(self, (BadFormula, (1, 0)), need_formula, ("and", (7, nots(20, X))))

    def test_many_parts(self):
        self.assertEqual(measures(need_formula(("and", (X,) * 1999))), (2000, 2))
        refused(self, (TooGreat, 2000), need_formula, ("and", (X,) * 2000))
        refused(self, (TooGreat, 2000), need_formula, ("and", (X,) * 1999 + (5,)))
        refused(self, (BadFormula, (1, 1998)), need_formula, ("and", (X,) * 1998 + (5,)))
        twice = X
        for _ in range(15):
            twice = ("and", (twice, twice))
        refused(self, (TooGreat, 2000), need_formula, twice)
        # The 21st on the way comes ahead of the 2,001st met only where it is met first.
        refused(self, (TooGreat, 2000), need_formula, ("and", (X,) * 1999 + (nots(20, X),)))
        refused(self, (TooGreat, 20), need_formula, ("and", (X,) * 1000 + (nots(20, X),)))

    def test_plain(self):
        self.assertEqual(need_plain(("not", X)), ("not", X))
        refused(self, (NotPlain, ()), need_plain, ("some", 0, ("all", 1, X)))
        refused(self, (NotPlain, (1, 1, 1)), need_plain, ("or", (X, ("not", ("all", 1, X)), ("some", 0, X))))
        refused(self, (BadFormula, (1, 1)), need_plain, ("or", (("some", 0, X), 5)))
        for value in STRANGE:
            refused(self, (BadFormula, ()), need_plain, value)

    def test_wide(self):
        formula = ("and", (ge(0, (3, 1)), ("some", 5, ge(0, (2, 1), (5, 1))), ge(0, (7, 1), (9, 1))))
        refused(self, (BadName, 7), need_wide, 4, formula)
        refused(self, (BadName, 2), need_wide, 2, formula)
        self.assertEqual(need_wide(1, ("all", 5, ge(0, (0, 1), (5, 1)))), ("all", 5, ge(0, (0, 1), (5, 1))))
        refused(self, (BadName, 5), need_wide, 4, ("and", (("all", 5, ge(0, (5, 1))), ge(0, (5, 1)))))
        refused(self, (BadWidth, 5), need_wide, 5, "no formula")
        refused(self, (BadFormula, ()), need_wide, 4, 7)
        refuses_strange(self, BadWidth, need_wide, (), (X,))


class Parts(unittest.TestCase):
    whole = ("and", (X, ("some", 1, ("not", Y)), ("or", ())))

    def test_parts(self):
        want = [((), self.whole), ((1, 0), X), ((1, 1), ("some", 1, ("not", Y))), ((1, 1, 2), ("not", Y)),
                ((1, 1, 2, 1), Y), ((1, 2), ("or", ()))]
        self.assertEqual(parts_of(self.whole), want)
        for path, part in want:
            self.assertEqual(part_at(self.whole, path), part)
        have = parts_of(self.whole)
        have.clear()
        self.assertEqual(parts_of(formula=self.whole), want)

    def test_no_path(self):
        for path in (None, 1, [], [1, 0], (0,), (1,), (2,), (1, 3), (1, -1), (1, True), (True, 0), (1, 1.0), (1, 0, 1),
                     (1, 1, 1), (1, 1, 2, 1, 1), ("1", 0), (1, 1, 2, True)):
            refused(self, (BadIndex, path), part_at, self.whole, path)
            refused(self, (BadIndex, path), put_at, self.whole, path, "no part")
        refused(self, (BadFormula, ()), part_at, 5, 5)
        refused(self, (BadFormula, ()), put_at, 5, 5, 5)

    def test_put_at(self):
        self.assertEqual(put_at(self.whole, (), Y), Y)
        self.assertEqual(put_at(self.whole, (1, 1, 2, 1), X), ("and", (X, ("some", 1, ("not", X)), ("or", ()))))
        self.assertEqual(put_at(formula=self.whole, path=(1, 0), part=ALWAYS)[1][0], ALWAYS)
        refused(self, (BadFormula, (1, 1, 2)), put_at, self.whole, (1, 1, 2), "no part")
        refused(self, (BadFormula, (1, 1, 2, 1)), put_at, self.whole, (1, 1, 2), ("not", 5))
        self.assertEqual(measures(put_at(nots(3, X), (1, 1, 1), nots(16, X))), (20, 20))
        refused(self, (TooGreat, 20), put_at, nots(3, X), (1, 1, 1), nots(17, X))
        self.assertEqual(measures(put_at(("and", (X, Y)), (1, 0), ("or", (X,) * 1996)))[0], 1999)
        refused(self, (TooGreat, 2000), put_at, ("and", (X, Y)), (1, 0), ("or", (X,) * 1998))

    def test_measures_and_plain(self):
        self.assertEqual(measures(self.whole), (6, 4))
        self.assertEqual(measures(ALWAYS), (1, 1))
        self.assertEqual(measures(nots(19, X)), (20, 20))
        self.assertIs(is_plain(self.whole), False)
        self.assertIs(is_plain(("not", X)), True)

    def test_free_names(self):
        self.assertEqual(free_names(self.whole), (0,))
        self.assertEqual(free_names(("and", (ge(0, (4, 1), (7, 1)), ("all", 4, ge(0, (2, 1), (4, 1)))))), (2, 4, 7))
        self.assertEqual(free_names(("some", 4, ("and", (("all", 4, ge(0, (4, 1))), ge(0, (4, 1)))))), ())
        self.assertEqual(free_names(("some", 4, ALWAYS)), ())

    def test_holds(self):
        self.assertIs(holds_at(("and", (X, eq(-3, (1, 1)))), (0, 3)), True)
        self.assertIs(holds_at(("mod", 3, (1, ((0, 1),))), (NUMBER,)), False)
        self.assertIs(holds_at(("mod", 3, (2, ((0, 1),))), (NUMBER,)), True)
        self.assertIs(holds_at(ALWAYS, ()), True)
        self.assertIs(holds_at(("or", ()), ()), False)
        refused(self, (BadRow, (0,)), holds_at, ("or", (ALWAYS, Y)), (0,))
        refused(self, (BadRow, (True, 0)), holds_at, X, (True, 0))
        refused(self, (NotPlain, (1,)), holds_at, ("not", ("some", 0, X)), 7)
        refused(self, (BadFormula, ()), holds_at, 5, 7)
        refuses_strange(self, BadRow, holds_at, (Y,), let=((0, 0, 0, 0, 0, 0),))
        rand = make_rand(10)
        for _ in range(300):
            formula = rand_formula(rand, 4, range(3))
            numbers = tuple(rand.choice((rand.randint(0, 9), rand.randint(0, NUMBER))) for _ in range(3))
            self.assertIs(holds_at(formula, numbers), tried(formula, by_names(numbers)))

    def test_checks_of_the_formula(self):
        for call in (parts_of, is_plain, measures, free_names):
            refuses = (BadFormula, (1,))
            refused(self, refuses, call, ("not", 5))
            refused(self, (TooGreat, 20), call, nots(20, X))


class PutIn(unittest.TestCase):
    def test_the_example(self):
        formula = ("some", 1, ("eq", (0, ((0, 1), (1, -2)))))
        self.assertEqual(put_in(formula, 0, (3, ((1, 1),))), ("some", 2, ("eq", (3, ((1, 1), (2, -2))))))

    def test_free_places_only(self):
        formula = ("and", (X, ("some", 0, X), ("all", 1, ge(0, (0, 2), (1, 1)))))
        want = ("and", (ge(5, (2, 1)), ("some", 0, X), ("all", 1, ge(10, (1, 1), (2, 2)))))
        self.assertEqual(put_in(formula=formula, name=0, term=(5, ((2, 1),))), want)
        # A name that binds nothing is renamed, too; where the name is not free, nothing is.
        self.assertEqual(put_in(("some", 1, X), 0, (0, ((1, 1),))), ("some", 2, ge(0, (1, 1))))
        self.assertEqual(put_in(("some", 1, Y), 0, (0, ((1, 1),))), ("some", 1, Y))
        # The least name that is left may be 0.
        self.assertEqual(put_in(("all", 1, ge(0, (1, 1), (2, 5))), 2, (3, ((1, 1),))), ("all", 0, ge(15, (0, 1), (1, 5))))
        self.assertEqual(put_in(("all", 1, ge(0, (0, 1), (1, 1))), 1, (7, ())), ("all", 1, ge(0, (0, 1), (1, 1))))

    def test_the_name_itself_in_the_term(self):
        formula = ("some", 1, ge(0, (0, 1), (1, 1)))
        self.assertEqual(put_in(formula, 0, (1, ((0, 1),))), ("some", 1, ge(1, (0, 1), (1, 1))))
        self.assertEqual(put_in(formula, 0, (1, ((0, 1), (1, 1)))), ("some", 2, ge(1, (0, 1), (1, 1), (2, 1))))

    def test_renaming_goes_by_the_same_rule(self):
        # 1 is renamed to 3, the least name that is not free behind it; so the inner 3 is renamed first, to 4.
        inner = ("some", 3, ge(0, (0, 1), (1, 1), (2, 1), (3, 1)))
        want = ("some", 3, ("some", 4, ge(0, (1, 1), (2, 1), (3, 1), (4, 1))))
        self.assertEqual(put_in(("some", 1, inner), 0, (0, ((1, 1),))), want)

    def test_no_name_left(self):
        pairs = tuple((name, 1) for name in range(10))
        formula = ("some", 1, ("ge", (0, pairs)))
        refused(self, (TooGreat, 10), put_in, formula, 0, (0, ((1, 1),)))
        formula = ("some", 1, ("ge", (0, pairs[:9])))
        self.assertEqual(put_in(formula, 0, (0, ((1, 1),)))[1], 9)
        refused(self, (TooGreat, 10), put_in, formula, 0, (0, ((1, 1), (9, 1))))

    def test_the_first_that_is_too_great(self):
        great = ge(BILLION, (0, 1))
        full = ("some", 1, ("ge", (0, tuple((name, 1) for name in range(10)))))
        refused(self, (TooGreat, BILLION), put_in, ("and", (great, full)), 0, (1, ((1, 1),)))
        refused(self, (TooGreat, 10), put_in, ("and", (full, great)), 0, (1, ((1, 1),)))
        self.assertEqual(put_in(great, 0, (0, ())), ge(BILLION))

    def test_wrong_ones(self):
        refused(self, (BadFormula, ()), put_in, 5, 10, 0)
        refused(self, (BadName, 10), put_in, X, 10, 0)
        refuses_strange(self, BadName, put_in, (X,), (0,))
        refuses_strange(self, BadTerm, put_in, (X, 0))

    def test_where_it_holds(self):
        rand = make_rand(11)
        for _ in range(120):
            formula = rand_formula(rand, 4, range(3), 4, 2, (0, 1, 2))
            term = (rand.randint(0, 3), tuple((name, rand.randint(1, 2)) for name in range(3) if rand.random() < 0.5))
            put = put_in(formula, 1, term)
            self.assertEqual(need_formula(put), put)
            for _ in range(4):
                row = tuple(rand.randint(0, 5) for _ in range(3))
                numbers = {**by_names(row), 1: term_value(term, row)}
                # What some and all tell by numbers up to 12 is the same on both sides.
                self.assertEqual(tried(put, by_names(row), 12), tried(formula, numbers, 12))

    def test_both_orders(self):
        rand = make_rand(12)
        for _ in range(200):
            formula = rand_formula(rand, 5, range(4), 4, 2, (0, 1, 2, 3))
            one = rand_term(rand, range(4), 4, 2)
            other = rand_term(rand, (1, 2, 3), 4, 2)
            first = put_in(put_in(formula, 0, one), 1, other)
            second = put_in(put_in(formula, 1, other), 0, put_into_term(one, 1, other))
            self.assertTrue(same_but_bound(first, second), (formula, one, other))


class Names(unittest.TestCase):
    def test_traded(self):
        formula = ("some", 1, ("and", (ge(1, (0, 2), (1, 3)), ("all", 0, ("mod", 2, (0, ((0, 1), (5, 1))))))))
        want = ("some", 0, ("and", (ge(1, (0, 3), (1, 2)), ("all", 1, ("mod", 2, (0, ((1, 1), (5, 1))))))))
        self.assertEqual(trade_names(formula, 0, 1), want)
        self.assertEqual(trade_names(formula, one=1, other=0), want)
        self.assertEqual(trade_names(formula, 1, 1), formula)
        self.assertEqual(trade_names(formula, 5, 0)[2][1][0], ge(1, (1, 3), (5, 2)))
        refused(self, (BadFormula, ()), trade_names, 5, 10, 11)
        refuses_strange(self, BadName, trade_names, (X,), (10,))
        refuses_strange(self, BadName, trade_names, (X, 0))
        rand = make_rand(13)
        for _ in range(100):
            formula = rand_formula(rand, 4, range(4), binders=(0, 1, 2))
            self.assertEqual(trade_names(trade_names(formula, 1, 3), 3, 1), formula)

    def test_alike(self):
        yes = [(("some", 1, Y), ("some", 2, eq(0, (2, 1)))),
               (("some", 1, X), ("some", 2, X)),
               (("all", 1, ("some", 2, ge(0, (1, 1), (2, 2)))), ("all", 2, ("some", 1, ge(0, (1, 2), (2, 1))))),
               (("some", 1, ("some", 1, Y)), ("some", 2, ("some", 3, eq(0, (3, 1))))),
               (("some", 1, ("and", (Y, ("some", 1, Y)))), ("some", 1, ("and", (Y, ("some", 0, eq(0, (0, 1)))))))]
        no = [(("some", 1, ge(0, (0, 1), (1, 1))), ("some", 0, ge(0, (0, 1), (1, 1)))),
              (("some", 1, X), ("all", 1, X)), (X, Y), (("and", (X,)), ("and", (X, X))), (("and", (X,)), ("or", (X,))),
              (("some", 1, ("some", 2, ge(0, (1, 1), (2, 2)))), ("some", 1, ("some", 2, ge(0, (1, 2), (2, 1))))),
              (("some", 1, ("some", 1, Y)), ("some", 1, ("some", 2, Y))), (eq(0, (1, 1)), eq(0, (2, 1))),
              (("some", 2, eq(0, (2, 1))), ("some", 2, eq(0, (1, 1)))),
              (("some", 1, ("some", 3, eq(0, (3, 1)))), ("some", 1, ("some", 3, eq(0, (2, 1))))),
              (("mod", 2, (0, ())), ("mod", 3, (0, ()))), (ge(0), ge(1)), (X, ("not", X)), (ge(0), eq(0)),
              (("some", 1, ("some", 2, ("some", 1, ("some", 2, ge(0, (1, 1), (2, 2)))))),
               ("some", 1, ("some", 2, ("some", 1, ("some", 2, ge(0, (1, 2), (2, 1)))))))]
        for one, other in yes:
            self.assertIs(same_but_bound(one, other), True)
            self.assertIs(same_but_bound(other=one, one=other), True)
        for one, other in no:
            self.assertIs(same_but_bound(one, other), False)
            self.assertIs(same_but_bound(other, one), False)
        refused(self, (BadFormula, ()), same_but_bound, 5, ("not", 5))
        refused(self, (BadFormula, (1,)), same_but_bound, X, ("not", 5))


if __name__ == "__main__":
    unittest.main()
