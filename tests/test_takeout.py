"""Points 15 to 18."""

import unittest

from tests.helpers import ALWAYS, BILLION, NUMBER, STRANGE, atoms_of, by_names, eq, ge, lcm_of, make_rand, mod, nots
from tests.helpers import quantified, rand_formula, refused, refuses_strange, term_value, tried
from wholesay.errors import BadFormula, BadName, NotPlain, TooGreat
from wholesay.formulas import free_names, holds_at, measures, need_plain
from wholesay.takeout import all_out, candidates_of, flat_out, nearly_out, often_out, period_of, some_out, work_of

OUTS = (some_out, all_out, often_out, nearly_out)
EXAMPLE = ("and", (("eq", (0, ((0, 1), (1, -2)))), ("ge", (-3, ((1, 1),)))))


def standing_for(candidates, numbers):
    """The numbers that candidates stand for."""
    values = [(term_value(term, numbers), divisor) for term, divisor in candidates]
    return {value // divisor for value, divisor in values if value >= 0 and value % divisor == 0}


class Candidates(unittest.TestCase):
    def test_the_example(self):
        self.assertEqual(period_of(EXAMPLE, 1), 1)
        self.assertEqual(work_of(EXAMPLE, 1), 37)
        want = (((0, ()), 1), ((0, ((0, 1),)), 2), ((2, ((0, 1),)), 2), ((3, ()), 1), ((4, ()), 1))
        self.assertEqual(candidates_of(formula=EXAMPLE, name=1), want)

    def test_periods(self):
        formula = ("or", (mod(6, 1, (0, 4), (1, 1)), ("not", mod(10, 0, (0, -1))), mod(7, 0, (1, 1)), ge(0, (0, 9))))
        self.assertEqual(period_of(formula, 0), 30)
        self.assertEqual(period_of(formula, 1), 42)
        self.assertEqual(period_of(formula, 5), 1)
        great = ("and", tuple(mod(modulus, 0, (0, 1)) for modulus in range(999900, 1000001)))
        self.assertEqual(period_of(great, 0), lcm_of(range(999900, 1000001)))

    def test_borders(self):
        # -3 x1 + 2 x0 + 5 is 0 where 3 x1 is 5 + 2 x0; D is 2.
        formula = ("and", (ge(5, (0, 2), (1, -3)), mod(2, 0, (1, 1))))
        shifts = tuple(((5 + more, ((0, 2),)), 3) for more in range(7))
        self.assertEqual(candidates_of(formula, 1), (((0, ()), 1), ((1, ()), 1)) + shifts)
        formula = ("and", (eq(5, (0, 2), (1, 3)), mod(2, 0, (1, 1))))
        want = (((-5, ((0, -2),)), 3), ((0, ()), 1), ((1, ()), 1), ((1, ((0, -2),)), 3))
        self.assertEqual(candidates_of(formula, 1), tuple(sorted(want)))
        # Equal candidates of several atoms are one; the name itself is in none.
        self.assertEqual(candidates_of(("and", (ge(0, (1, 1)), ge(0, (1, 1)))), 1), (((0, ()), 1), ((1, ()), 1)))
        self.assertEqual(candidates_of(("or", (ge(3, (0, 1)), eq(4))), 1), (((0, ()), 1),))

    def test_work(self):
        self.assertEqual(work_of(ALWAYS, 0), 1 * 5 + 2)
        self.assertEqual(work_of(ge(0, (0, 3)), 0), (1 + 4) * 5 + 2)
        self.assertEqual(work_of(("not", eq(0, (0, -3))), 0), (1 + 2) * 6 + 2)
        self.assertEqual(work_of(("and", (ge(0, (0, 3)), ge(0, (0, 3)), mod(5, 0, (0, 1)))), 0), (5 + 16 + 16) * 8 + 2)

    def test_the_least_number_is_one_of_them(self):
        rand = make_rand(30)
        done = 0
        for _ in range(400):
            formula = rand_formula(rand, 3, range(2), 5, 2)
            if work_of(formula, 1) > 2000:
                continue
            found = candidates_of(formula, 1)
            self.assertEqual(found, tuple(sorted(set(found))))
            for x in range(5):
                holding = [y for y in range(60) if tried(formula, {0: x, 1: y})]
                if holding:
                    done += 1
                    self.assertIn(holding[0], standing_for(found, {0: x}))
        self.assertGreater(done, 500)


class Limits(unittest.TestCase):
    def test_deep(self):
        atom = mod(2, 0, (0, 1))
        for call in OUTS + (candidates_of,):
            call(nots(15, atom), 0)
            refused(self, (TooGreat, 20), call, nots(16, atom), 0)
        self.assertEqual(work_of(nots(16, atom), 0), 2 * 21 + 2)
        # First of all limits.
        refused(self, (TooGreat, 20), some_out, nots(16, ge(BILLION, (0, BILLION))), 0)

    def test_work(self):
        # Each mod of another name is one part more: 4 * (P + 4) + 2, P = 1 + 1 + others.
        def formula(others):
            return ("and", (ge(0, (0, 2)),) + (mod(2, 0, (1, 1)),) * others)
        self.assertEqual(work_of(formula(493), 0), 4 * 499 + 2)
        for call in OUTS + (candidates_of,):
            call(formula(493), 0)
            refused(self, (TooGreat, 2000), call, formula(494), 0)
        exact = ("and", (eq(0, (0, 1)),) * 22 + (ge(0, (1, 1)),) * 17)
        self.assertEqual(work_of(exact, 0), 45 * 44 + 2)
        refused(self, (TooGreat, 2000), some_out, ge(BILLION, (0, BILLION)), 0)
        # Ahead of the greatness of numbers.
        refused(self, (TooGreat, 2000), some_out, ("and", (eq(BILLION, (0, 1)),) * 40), 0)

    def test_great_numbers(self):
        # 2 * G * G * 3 is at most 10 ** 9 for G up to 12909.
        for call in OUTS + (candidates_of,):
            call(ge(12909, (0, 1)), 0)
            call(eq(0, (0, -12909)), 0)
            call(eq(0, (0, 1), (1, 12909)), 0)
            call(("and", (eq(0, (0, 1)), eq(BILLION, (1, BILLION)))), 0)
            refused(self, (TooGreat, BILLION), call, ge(12910, (0, 1)), 0)
            refused(self, (TooGreat, BILLION), call, eq(0, (0, -12910)), 0)
            refused(self, (TooGreat, BILLION), call, eq(0, (0, 1), (1, -12910)), 0)
        # D counts: 2 * G * G * (D + 2).
        candidates_of(("and", (ge(11180, (0, 1)), mod(2, 0, (0, 1)))), 0)
        refused(self, (TooGreat, BILLION), candidates_of, ("and", (ge(11181, (0, 1)), mod(2, 0, (0, 1)))), 0)
        # 2 * 5000 * 5000 * 20 is just kept.
        for call in OUTS + (candidates_of,):
            call(("and", (mod(18, 0, (0, 1)), eq(5000, (0, 1)))), 0)
            refused(self, (TooGreat, BILLION), call, ("and", (mod(18, 0, (0, 1)), eq(5001, (0, 1)))), 0)
        # The numbers of mods count, too, and come ahead of the moduli.
        refused(self, (TooGreat, BILLION), candidates_of, ("or", (mod(500000, 500001, (0, 500000)),)), 0)

    def test_great_moduli(self):
        # G * M: G is 250000 // 5.
        for call in OUTS + (candidates_of,):
            call(mod(200, 0, (0, 100), (1, 5000)), 0)
            refused(self, (TooGreat, 10 ** 6), call, mod(200, 0, (0, 100), (1, 5001)), 0)
            call(("and", (mod(200, 0, (0, 100)), mod(10 ** 6, 0, (1, BILLION)))), 0)
        candidates_of(mod(300, 0, (0, 100), (1, 3333)), 0)
        refused(self, (TooGreat, 10 ** 6), candidates_of, mod(300, 0, (0, 100), (1, 3334)), 0)

    def test_wrong_ones(self):
        for call in OUTS + (candidates_of, period_of, work_of):
            for value in STRANGE:
                refused(self, (BadFormula, (1,)), call, ("not", value), 10)
            refused(self, (NotPlain, (1, 0)), call, ("or", (("all", 1, ge(0)), ("some", 1, ge(0)))), 10)
            refused(self, (BadName, 10), call, nots(16, ge(0)), 10)
            refuses_strange(self, BadName, call, (EXAMPLE,))


class OneOut(unittest.TestCase):
    def judge(self, formula, name, rows):
        made = [call(formula, name) for call in OUTS]
        for each in made:
            self.assertEqual(need_plain(each), each)
            self.assertTrue(set(free_names(each)) <= set(free_names(formula)) - {name})
        for row in rows:
            have = [holds_at(each, row) for each in made]
            self.assertEqual(have, quantified(formula, name, by_names(row)), (formula, name, row))

    def test_the_example(self):
        made = some_out(EXAMPLE, 1)
        for x in list(range(30)) + [NUMBER - 1, NUMBER]:
            self.assertIs(holds_at(made, (x,)), x >= 6 and x % 2 == 0)
        made = some_out(name=0, formula=EXAMPLE)
        self.assertEqual([y for y in range(10) if holds_at(made, (0, y))], list(range(3, 10)))

    def test_plain_cases(self):
        self.judge(ge(-5, (0, 1), (1, -1)), 1, [(x, 0) for x in range(12)])
        self.judge(ge(-5, (0, 1), (1, 1)), 1, [(x, 0) for x in range(12)])
        self.judge(("not", mod(3, 1, (0, 1), (1, 2))), 1, [(x, 0) for x in range(12)])
        self.judge(mod(4, 1, (0, 1), (1, 2)), 1, [(x, 0) for x in range(12)])
        self.judge(("or", (eq(0, (0, 2), (1, -3)), ge(-9, (0, 1)))), 1, [(x, 0) for x in range(12)])
        self.judge(ge(-5, (0, 1)), 1, [(x, 0) for x in range(12)])

    def test_the_least_and_the_greatest_formulas(self):
        deepest = mod(2, 0, (0, 1), (1, 1))
        for _ in range(15):
            deepest = ("and", (deepest,))
        self.judge(deepest, 1, [(0, 0), (1, 0)])
        for even in (0, 1):
            deepest = mod(2, even, (0, 1), (1, 1))
            for deep in range(15):
                deepest = (("not",) + (deepest,)) if deep % 2 == 0 else ("or", (deepest, eq(-deep, (0, 1), (1, -1))))
            self.judge(deepest, 1, [(x, 0) for x in range(4)])
        widest = ("and", (ge(0, (0, -1), (1, 1)),) + tuple(mod(2 + at, at, (0, 1)) for at in range(660)))
        self.assertEqual(work_of(widest, 1), 3 * 666 + 2)
        self.judge(widest, 1, [(0, 0), (1, 0)])

    def test_at_random(self):
        rand = make_rand(31)
        done = 0
        for _ in range(700):
            formula = rand_formula(rand, 4, range(3), 6, 3)
            name = rand.randint(0, 2)
            if work_of(formula, name) > 2000:
                for call in OUTS:
                    refused(self, (TooGreat, 2000), call, formula, name)
                continue
            done += 1
            small = [tuple(rand.randint(0, 12) for _ in range(3)) for _ in range(4)]
            great = [tuple(rand.randint(0, rand.choice((9, 10 ** 20, NUMBER))) for _ in range(3)) for _ in range(3)]
            self.judge(formula, name, small + great)
        self.assertGreater(done, 250)

    def test_great_constants(self):
        rand = make_rand(32)
        for _ in range(60):
            formula = ("and", (eq(rand.randint(-9000, 9000), (0, rand.choice((-9000, 77, 5))), (1, rand.choice((-2, 3)))),
                               ("not", eq(rand.randint(-9000, 9000), (0, 1), (1, -1)))))
            self.judge(formula, 1, [(rand.randint(0, rand.choice((9, NUMBER))), 0) for _ in range(6)])


class Flat(unittest.TestCase):
    def test_plain_ones(self):
        for formula in (EXAMPLE, ALWAYS, ("not", ge(3, (5, 1)))):
            made = flat_out(formula=formula)
            for x in range(10):
                numbers = (x, x // 2, 0, 0, 0, 0)
                self.assertIs(holds_at(made, numbers), holds_at(formula, numbers))

    def test_at_random(self):
        rand = make_rand(33)
        done = 0
        for _ in range(300):
            inner = [(rand.choice(("some", "all")), rand.randint(0, 2), rand_formula(rand, 2, range(3), 5, 2))
                     for _ in range(2)]
            formula = ("and", (("not", inner[0]), rand_formula(rand, 2, range(3), 5, 2), ("or", (inner[1],))))
            try:
                made = flat_out(formula)
            except TooGreat:
                continue
            done += 1
            self.assertEqual(need_plain(made), made)
            self.assertTrue(set(free_names(made)) <= set(free_names(formula)))
            for _ in range(6):
                row = tuple(rand.randint(0, 9) for _ in range(3))
                self.assertIs(holds_at(made, row), tried(formula, by_names(row), 60), (formula, row))
        self.assertGreater(done, 150)

    def test_errors(self):
        for value in STRANGE:
            refused(self, (BadFormula, (2,)), flat_out, ("some", 0, value))
        atom = ge(0, (0, 1))
        nested = ("some", 1, ("and", (atom, ("all", 2, atom))))
        refused(self, (NotPlain, (2, 1, 1)), flat_out, nested)
        refused(self, (NotPlain, (1, 1, 2)), flat_out, ("or", (("some", 1, atom), ("all", 0, ("some", 0, atom)), nested)))
        refused(self, (NotPlain, (2, 1, 1)), flat_out, ("some", 1, ("and", (atom, ("all", 2, nots(16, atom))))))
        even = mod(2, 0, (0, 1))
        self.assertEqual(measures(("all", 0, nots(14, even)))[1], 16)
        flat_out(("all", 0, nots(14, even)))
        refused(self, (TooGreat, 20), flat_out, ("all", 0, nots(15, even)))
        refused(self, (TooGreat, 20), flat_out, ("and", (nots(15, even), ("some", 0, eq(12910, (0, 1))))))
        # The limits of each, in the order of the walk, ahead of the works together.
        bad = ("some", 0, eq(12910, (0, 1)))
        worse = ("some", 0, mod(300, 0, (0, 100), (1, 3334)))
        refused(self, (TooGreat, BILLION), flat_out, ("and", (bad, worse) + (even,) * 1900))
        refused(self, (TooGreat, 10 ** 6), flat_out, ("and", (worse, bad)))

    def test_works_together(self):
        # A some of x0 >= 1 has the work (1 + 2) * 5 + 2.
        some = ("some", 0, ge(-1, (0, 1)))
        even = mod(2, 0, (0, 1))
        self.assertEqual(work_of(some[2], 0), 17)
        self.assertEqual(flat_out(("and", (some,) * 100 + (even,) * 299))[0], "mod")
        refused(self, (TooGreat, 2000), flat_out, ("and", (some,) * 100 + (even,) * 300))
        self.assertEqual(flat_out(("and", (some,) * 117 + (even,) * 10))[0], "mod")
        refused(self, (TooGreat, 2000), flat_out, ("and", (some,) * 117 + (even,) * 11))
        self.assertEqual(len(atoms_of(flat_out(("and", (some,) * 117)))), 0)


if __name__ == "__main__":
    unittest.main()
