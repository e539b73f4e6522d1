"""Points 12, 13 and 14."""

import unittest
from itertools import product

from tests.helpers import ALWAYS, BILLION, NEVER, STRANGE, by_names, eq, ge, make_rand, mod, nots, rand_atom
from tests.helpers import rand_formula, refused, same_value, tried
from wholesay.errors import BadFormula, BadParameter, NotPlain, TooGreat
from wholesay.formulas import free_names, measures, need_formula
from wholesay.forms import alternatives_of, from_alternatives, inward, is_inward, negated, simplified



def no(formula):
    return ("not", formula)


X = ge(0, (0, 1))
Y = eq(0, (1, 1))
EVEN = mod(2, 0, (0, 1))


class Inward(unittest.TestCase):
    def test_each_kind(self):
        self.assertEqual(inward(no(ge(3, (0, 2), (4, -1)))), ge(-4, (0, -2), (4, 1)))
        self.assertEqual(inward(no(eq(3, (0, 2)))), ("or", (ge(2, (0, 2)), ge(-4, (0, -2)))))
        self.assertEqual(inward(no(EVEN)), no(EVEN))
        self.assertEqual(inward(no(no(EVEN))), EVEN)
        self.assertEqual(inward(no(no(no(EVEN)))), no(EVEN))
        self.assertEqual(inward(no(("and", (X, EVEN, no(Y))))), ("or", (ge(-1, (0, -1)), no(EVEN), Y)))
        self.assertEqual(inward(no(("or", (Y,)))), ("and", (("or", (ge(-1, (1, 1)), ge(-1, (1, -1)))),)))
        self.assertEqual(inward(no(("some", 3, no(X)))), ("all", 3, X))
        self.assertEqual(inward(no(("all", 3, X))), ("some", 3, ge(-1, (0, -1))))
        self.assertEqual(negated(no(X)), X)
        self.assertEqual(negated(formula=ALWAYS), NEVER)
        unchanged = ("and", (X, Y, no(EVEN), ("some", 2, ("or", (Y, ALWAYS)))))
        self.assertEqual(inward(formula=unchanged), unchanged)

    def test_is_inward(self):
        for formula in (X, no(EVEN), ("all", 1, ("and", (no(EVEN),)))):
            self.assertIs(is_inward(formula), True)
        for formula in (no(X), no(no(EVEN)), ("and", (X, no(ALWAYS))), ("some", 1, no(Y))):
            self.assertIs(is_inward(formula), False)

    def test_too_great(self):
        self.assertEqual(inward(no(ge(BILLION - 1))), ge(-BILLION))
        self.assertEqual(inward(no(ge(-BILLION))), ge(BILLION - 1))
        for const, atom in ((BILLION, ge), (BILLION, eq), (-BILLION, eq)):
            refused(self, (TooGreat, BILLION), inward, no(atom(const)))
            refused(self, (TooGreat, BILLION), negated, atom(const))
            self.assertEqual(inward(no(no(atom(const)))), atom(const))
        # The constants come ahead of what need_formula raises.
        refused(self, (TooGreat, 2000), inward, ("and", (no(Y),) * 667))
        self.assertEqual(measures(inward(("and", (no(Y),) * 666))), (1999, 3))
        refused(self, (TooGreat, BILLION), inward, ("and", (no(Y),) * 667 + (no(ge(BILLION)),)))
        # An eq gets one deeper, but its not goes away; an even number of nots hides it.
        self.assertEqual(measures(negated(("and", (Y,)))), (4, 3))
        deep = Y
        for _ in range(19):
            deep = ("or", (deep,))
        self.assertEqual(measures(deep), (20, 20))
        refused(self, (TooGreat, 20), negated, deep)
        self.assertEqual(measures(negated(deep[1][0]))[1], 20)

    def test_where_they_hold(self):
        rand = make_rand(20)
        for _ in range(300):
            formula = rand_formula(rand, 4, range(3), binders=(2,))
            one, other = inward(formula), negated(formula)
            self.assertIs(is_inward(formula), is_inward(("all", 0, formula)))
            for made in (one, other):
                self.assertIs(is_inward(made), True)
                self.assertEqual(need_formula(made), made)
            for _ in range(3):
                row = {name: rand.randint(0, 9) for name in range(3)}
                self.assertIs(tried(one, row, 8), tried(formula, row, 8))
                self.assertIs(tried(other, row, 8), not tried(formula, row, 8))

    def test_wrong_ones(self):
        for call in (is_inward, inward, negated, simplified, alternatives_of):
            for value in STRANGE:
                refused(self, (BadFormula, (1, 1)), call, ("and", (X, value)))
            refused(self, (TooGreat, 20), call, nots(20, X))


def rows_of(*many):
    """Atoms x0 = K for each K: unlike literals."""
    return tuple(eq(-number, (0, 1)) for number in range(*many))


class Alternatives(unittest.TestCase):
    def test_in_their_order(self):
        a, b, c, d = rows_of(4)
        self.assertEqual(alternatives_of(a), [(a,)])
        self.assertEqual(alternatives_of(no(EVEN)), [(no(EVEN),)])
        self.assertEqual(alternatives_of(ALWAYS), [()])
        self.assertEqual(alternatives_of(NEVER), [])
        self.assertEqual(alternatives_of(("or", (b, a, b))), [(b,), (a,)])
        formula = ("and", (("or", (a, b)), ("or", (b, ("and", (c, a)), d))))
        want = [(a, b), (a, c), (a, d), (b,), (b, c, a), (b, d)]
        self.assertEqual(alternatives_of(formula=formula), want)
        # Unlike orders of the same literals are unlike alternatives.
        self.assertEqual(alternatives_of(("or", (("and", (a, b)), ("and", (b, a))))), [(a, b), (b, a)])
        self.assertEqual(alternatives_of(("and", (NEVER, a))), [])
        self.assertEqual(alternatives_of(no(("and", (X, EVEN)))), [(ge(-1, (0, -1)),), (no(EVEN),)])
        have = alternatives_of(formula)
        have.append(0)
        self.assertEqual(alternatives_of(formula), want)

    def test_too_many_literals(self):
        self.assertEqual(alternatives_of(("and", rows_of(100))), [rows_of(100)])
        refused(self, (TooGreat, 100), alternatives_of, ("and", rows_of(101)))
        self.assertEqual(len(alternatives_of(("and", rows_of(100) + rows_of(100)))[0]), 100)
        # All of FS are worked, even if none is left.
        refused(self, (TooGreat, 100), alternatives_of, ("and", (NEVER, ("and", rows_of(101)))))
        self.assertEqual(alternatives_of(("and", (NEVER,) + rows_of(101))), [])

    def test_too_many_alternatives(self):
        self.assertEqual(alternatives_of(("or", rows_of(400))), [(atom,) for atom in rows_of(400)])
        self.assertEqual(len(alternatives_of(("or", rows_of(400) + rows_of(400)))), 400)
        refused(self, (TooGreat, 400), alternatives_of, ("or", rows_of(401)))
        refused(self, (TooGreat, 400), alternatives_of, ("and", (NEVER, ("or", rows_of(401)))))
        twenty = ("or", rows_of(20))
        self.assertEqual(len(alternatives_of(("and", (twenty, ("or", rows_of(20, 40)))))), 400)
        refused(self, (TooGreat, 400), alternatives_of, ("and", (("or", rows_of(21)), ("or", rows_of(21, 41)))))
        # An or is counted over all of its formulas, a step of an and by itself, and each as it comes.
        refused(self, (TooGreat, 400), alternatives_of, ("or", (("or", rows_of(300)), ("or", rows_of(300, 401)))))
        both = ("and", (("or", rows_of(401)), ("and", rows_of(101))))
        refused(self, (TooGreat, 400), alternatives_of, both)
        refused(self, (TooGreat, 100), alternatives_of, ("and", both[1][::-1]))

    def test_wrong_ones(self):
        refused(self, (NotPlain, (1, 1)), alternatives_of, ("or", (X, ("some", 1, X), ("or", rows_of(401)))))
        refused(self, (TooGreat, BILLION), alternatives_of, ("or", rows_of(401) + (no(ge(BILLION)),)))
        refused(self, (TooGreat, 2000), alternatives_of, ("or", (no(Y),) * 667))

    def test_back(self):
        self.assertEqual(from_alternatives(()), NEVER)
        rows = ((X, no(EVEN), X), (), (Y,), ())
        self.assertEqual(from_alternatives(rows=rows), ("or", tuple(("and", row) for row in rows)))
        self.assertEqual(measures(from_alternatives(((X,) * 1998,)))[0], 2000)
        refused(self, (TooGreat, 2000), from_alternatives, ((X,) * 1999,))
        self.assertEqual(measures(from_alternatives(((no(EVEN),) * 999,)))[0], 2000)
        refused(self, (TooGreat, 2000), from_alternatives, ((no(EVEN),) * 999 + (X,),))
        refused(self, (TooGreat, 2000), from_alternatives, ((),) * 2000)
        self.assertEqual(measures(from_alternatives(((),) * 1999))[0], 2000)
        for value in (ALWAYS, no(X), ("some", 1, X), no(no(EVEN)), no(5), ge(BILLION + 1), [], None):
            refused(self, (BadParameter, ((X,), (Y, value))), from_alternatives, ((X,), (Y, value)))
        refused(self, (BadParameter, ((X,) * 2000 + (7,),)), from_alternatives, ((X,) * 2000 + (7,),))
        for value in STRANGE:
            if value not in ((), [], {}):
                refused(self, (BadParameter, value), from_alternatives, value)
        for value in ([], {}, ([],), (None,), ((X,), X)):
            refused(self, (BadParameter, value), from_alternatives, value)

    def test_where_they_hold(self):
        rand = make_rand(21)
        for _ in range(300):
            formula = rand_formula(rand, 4, range(2))
            found = alternatives_of(formula)
            self.assertEqual(len(set(found)), len(found))
            self.assertTrue(all(len(set(each)) == len(each) for each in found))
            made = from_alternatives(tuple(found))
            self.assertEqual(alternatives_of(made), found)
            for row in product(range(4), range(4)):
                self.assertIs(tried(made, by_names(row)), tried(formula, by_names(row)))


class Simple(unittest.TestCase):
    def simple(self, formula, want):
        self.assertTrue(same_value(simplified(formula), want), simplified(formula))
        self.assertEqual(simplified(want), want)

    def test_mod(self):
        self.simple(mod(6, -8, (0, 8), (1, -2), (2, 12)), mod(3, 2, (0, 1), (1, 2)))
        self.simple(mod(6, 3, (0, 4)), NEVER)
        self.simple(mod(6, 4, (0, 4)), mod(3, 2, (0, 2)))
        self.simple(mod(4, 8, (0, 4), (1, -8)), ALWAYS)
        self.simple(mod(4, 2), NEVER)
        self.simple(mod(4, -4), ALWAYS)
        self.simple(mod(5, -1, (3, -1)), mod(5, 4, (3, 4)))

    def test_eq(self):
        self.simple(eq(0), ALWAYS)
        self.simple(eq(3), NEVER)
        self.simple(eq(-6, (0, 4), (1, -2)), eq(-3, (0, 2), (1, -1)))
        self.simple(eq(-6, (0, -4), (1, 2)), eq(3, (0, 2), (1, -1)))
        self.simple(eq(3, (0, 2)), NEVER)
        self.simple(eq(1, (0, 1)), NEVER)
        self.simple(eq(-1, (0, -1), (1, -1)), NEVER)
        self.simple(eq(4, (0, 2), (1, 6)), NEVER)
        self.simple(eq(-4, (0, -2), (1, -6)), NEVER)
        self.simple(eq(0, (0, -2), (1, -6)), eq(0, (0, 1), (1, 3)))
        self.simple(eq(4, (0, -2)), eq(-2, (0, 1)))

    def test_ge(self):
        self.simple(ge(0), ALWAYS)
        self.simple(ge(-1), NEVER)
        self.simple(ge(-5, (0, 2), (1, -4)), ge(-3, (0, 1), (1, -2)))
        self.simple(ge(5, (0, -2)), ge(2, (0, -1)))
        self.simple(ge(0, (0, 3), (1, 1)), ALWAYS)
        self.simple(ge(-1, (0, 3), (1, 1)), ge(-1, (0, 3), (1, 1)))
        self.simple(ge(-1, (0, -3), (1, -1)), NEVER)
        self.simple(ge(0, (0, -3)), ge(0, (0, -1)))
        self.simple(ge(1, (0, -3)), ge(0, (0, -1)))
        self.simple(ge(-1, (0, -3)), NEVER)
        self.simple(ge(-BILLION, (0, BILLION)), ge(-1, (0, 1)))

    def test_not(self):
        self.simple(no(eq(0)), NEVER)
        self.simple(no(eq(1)), ALWAYS)
        self.simple(no(no(EVEN)), EVEN)
        self.simple(no(no(no(Y))), no(Y))
        self.simple(no(ge(-5, (0, 2))), no(ge(-3, (0, 1))))

    def test_and(self):
        a, b, c = ge(-1, (0, 1)), Y, no(EVEN)
        self.simple(("and", (a, ("and", (b, ("and", (c, a)))), ALWAYS)), ("and", (a, b, c)))
        self.simple(("and", (a, b, eq(1), c)), NEVER)
        self.simple(("and", (a, a)), a)
        self.simple(("and", (ALWAYS, no(NEVER))), ALWAYS)
        self.simple(("and", (ge(-1, (0, 1)), b, ge(-7, (0, 1)), ge(-3, (0, 1)))), ("and", (ge(-7, (0, 1)), b)))
        self.simple(("and", (b, ("or", (c, a)), no(("or", (c, a))))), NEVER)
        self.simple(("and", (no(b), b)), NEVER)
        self.simple(("and", (ge(3, (0, -1)), ge(-4, (0, 1)))), NEVER)
        self.simple(("and", (ge(4, (0, -1)), ge(-4, (0, 1)))), ("and", (ge(4, (0, -1)), ge(-4, (0, 1)))))
        self.simple(("and", (ge(3, (0, 2), (1, -3)), ge(-4, (0, -2), (1, 3)))), NEVER)
        self.simple(("and", (eq(-4, (0, 1)), eq(-5, (0, 1)))), NEVER)
        # The second ge has gone when the nots are looked at.
        gone = ("and", (ge(-3, (0, 1)), no(ge(-1, (0, 1))), ge(-1, (0, 1))))
        self.simple(gone, ("and", (ge(-3, (0, 1)), no(ge(-1, (0, 1))))))

    def test_or(self):
        a, b, c = ge(-1, (0, 1)), Y, no(EVEN)
        self.simple(("or", (a, ("or", (b, ("or", (c, a)))), NEVER)), ("or", (a, b, c)))
        self.simple(("or", (a, b, eq(0), c)), ALWAYS)
        self.simple(("or", (a, a)), a)
        self.simple(("or", (NEVER, no(ALWAYS))), NEVER)
        self.simple(("or", (ge(-3, (0, 1)), b, ge(-1, (0, 1)), ge(-7, (0, 1)))), ("or", (ge(-1, (0, 1)), b)))
        self.simple(("or", (no(b), b)), ALWAYS)
        self.simple(("or", (ge(3, (0, -1)), ge(-4, (0, 1)))), ALWAYS)
        self.simple(("or", (ge(3, (0, 2), (1, -3)), ge(-4, (0, -2), (1, 3)))), ALWAYS)
        self.simple(("or", (ge(2, (0, -1)), ge(-4, (0, 1)))), ("or", (ge(2, (0, -1)), ge(-4, (0, 1)))))
        self.simple(("or", (eq(-4, (0, 1)), eq(-5, (0, 1)))), ("or", (eq(-4, (0, 1)), eq(-5, (0, 1)))))
        self.simple(("or", (("and", (b, c)), ("and", (b, c)))), ("and", (b, c)))
        self.simple(("and", (("or", (("and", (b, c)),)), c)), ("and", (b, c)))

    def test_some_and_all(self):
        self.simple(("some", 1, ge(-1, (0, 1))), ge(-1, (0, 1)))
        self.simple(("all", 1, ("and", (Y, no(Y)))), NEVER)
        self.simple(("some", 1, ("all", 0, ("and", (Y, Y)))), ("some", 1, Y))
        self.simple(("some", 0, mod(2, 1, (0, 4))), NEVER)

    def test_same_rows_no_more_parts_no_deeper(self):
        rand = make_rand(22)
        for _ in range(1500):
            formula = rand_formula(rand, 5, range(3), binders=(2,))
            simple = simplified(formula)
            self.assertEqual(simplified(simple), simple)
            self.assertEqual(need_formula(simple), simple)
            self.assertTrue(set(free_names(simple)) <= set(free_names(formula)))
            (parts, deep), (many, most) = measures(simple), measures(formula)
            self.assertTrue(parts <= many and deep <= most)
            for _ in range(3):
                row = {name: rand.randint(0, 9) for name in range(3)}
                self.assertIs(tried(simple, row, 8), tried(formula, row, 8))

    def test_atoms_at_random(self):
        rand = make_rand(23)
        for _ in range(2000):
            atom = rand_atom(rand, range(2), 30, 12)
            for row in product((0, 1, 2, 5), (0, 1, 3, 8)):
                self.assertIs(tried(simplified(formula=atom), by_names(row)), tried(atom, by_names(row)))


if __name__ == "__main__":
    unittest.main()
