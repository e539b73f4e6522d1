"""Point 29, and point 7 as far as formulas and machines tell the same rows."""

import unittest

from tests.helpers import ALWAYS, BILLION, NEVER, NUMBER, STRANGE, by_names, eq, ge, make_rand, mod, quantified
from tests.helpers import rand_formula, refused, refuses_strange, same_value, somes, tried
from tests.slow import TooMany, reach, slow_atom, slow_machine, small_rows
from wholesay.asking import alike
from wholesay.errors import BadFormula, BadName, BadWidth, TooGreat
from wholesay.forms import inward, negated, simplified
from wholesay.formulas import put_in, trade_names
from wholesay.machines import all_rows, both, either, just, least_machine, need_machine, no_rows, takes, turned
from wholesay.places import placed, with_place, without
from wholesay.reading import machine_of
from wholesay.takeout import all_out, some_out



class Rows(unittest.TestCase):
    def judge(self, many, formula, rows):
        machine = machine_of(many, formula)
        self.assertIs(need_machine(machine), machine)
        self.assertTrue(same_value(least_machine(machine), machine))
        for row in rows:
            self.assertIs(takes(machine, row), tried(formula, by_names(row)), (formula, row))

    def test_each_kind(self):
        rows = small_rows(2, 9) + [(NUMBER, 3), (3, NUMBER), (NUMBER, NUMBER), (NUMBER - 1, NUMBER // 2)]
        for formula in (ge(-5, (0, 1)), ge(3, (0, 1), (1, -1)), eq(0, (0, 1), (1, -2)), eq(-7, (1, 1)), mod(3, 1, (0, 2)),
                        mod(12, 5, (0, 5), (1, -7)), ("not", eq(0, (0, 1), (1, -1))), ALWAYS, NEVER, ge(-1), eq(0),
                        mod(4, 8), mod(4, 2), eq(NUMBER // 10 ** 52, (0, -1)), ("and", (ge(-5, (0, 1)), mod(2, 0, (1, 1)))),
                        ("or", (ge(-5, (0, 1)), mod(2, 0, (1, 1)))), ("and", (mod(5, 2, (1, 1)),)), mod(8, 3, (0, 1))):
            self.judge(2, formula, rows)

    def test_one_and_the_same_value(self):
        self.assertEqual(machine_of(3, ALWAYS), all_rows(3))
        self.assertEqual(machine_of(formula=NEVER, many=2), no_rows(2))
        self.assertEqual(machine_of(1, mod(2, 0, (0, 1))), machine_of(1, ("some", 7, eq(0, (0, 1), (7, -2)))))
        row = (5, 0, BILLION)
        told = ("and", tuple(eq(-number, (place, 1)) for place, number in enumerate(row)))
        self.assertEqual(machine_of(3, told), just(3, row))
        self.assertEqual(machine_of(2, ("or", (ge(0, (0, 1), (1, -1)), ge(-1, (0, -1), (1, 1))))), all_rows(2))
        # 2 x0 = 3 x1 told by x0 = 3 x2, x1 = 2 x2.
        self.assertEqual(machine_of(2, eq(0, (0, 2), (1, -3))),
                         machine_of(2, ("some", 2, ("and", (eq(0, (0, 1), (2, -3)), eq(0, (1, 1), (2, -2)))))))

    def test_somes_and_alls(self):
        # However great: each x0 has a greater x1, none is above all.
        greater = ge(-1, (0, -1), (1, 1))
        self.assertEqual(machine_of(1, ("some", 1, greater)), all_rows(1))
        self.assertEqual(machine_of(2, ("some", 0, ("all", 1, ge(0, (0, 1), (1, -1))))), no_rows(2))
        self.assertEqual(machine_of(1, ("all", 0, ("some", 1, greater))), all_rows(1))
        self.assertEqual(machine_of(1, ("some", 1, ("all", 0, greater))), no_rows(1))
        # All but a few: 3 x + 5 y reach each number from 8 on.
        reached = ("some", 8, ("some", 9, eq(0, (0, 1), (8, -3), (9, -5))))
        machine = machine_of(1, reached)
        self.assertEqual([x for x in range(40) if not takes(machine, (x,))], [1, 2, 4, 7])
        self.assertIs(takes(machine, (NUMBER,)), True)
        self.assertEqual(machine_of(1, ("or", (reached, ge(7, (0, -1))))), all_rows(1))
        # A name that is not free there: what stands in it is told.
        self.assertEqual(machine_of(2, ("some", 1, ge(-3, (0, 1)))), machine_of(2, ge(-3, (0, 1))))
        self.assertEqual(machine_of(2, ("all", 0, ("some", 0, NEVER))), no_rows(2))
        # Inner names of the same name.
        self.assertEqual(machine_of(1, ("and", (ge(-3, (0, 1)), ("some", 0, eq(-1, (0, 1)))))), machine_of(1, ge(-3, (0, 1))))

    def test_plain_ones_at_random(self):
        rand = make_rand(70)
        for _ in range(150):
            rows = [tuple(rand.randint(0, rand.choice((9, 300, NUMBER))) for _ in range(3)) for _ in range(12)]
            self.judge(3, rand_formula(rand, 4, range(3), rand.choice((6, 90)), 3), small_rows(3, 2) + rows)

    def test_quantified_ones_at_random(self):
        rand = make_rand(71)
        for _ in range(150):
            formula = rand_formula(rand, 3, range(3), 6, 3)
            name = rand.randrange(3)
            some, every = machine_of(3, ("some", name, formula)), machine_of(3, ("all", name, formula))
            for _ in range(6):
                row = tuple(rand.randint(0, rand.choice((9, NUMBER))) for _ in range(3))
                want = quantified(formula, name, by_names(row))[:2]
                self.assertEqual([takes(some, row), takes(every, row)], want, (formula, name, row))

    def test_beside_what_takes_quantifiers_out(self):
        rand = make_rand(72)
        done = 0
        for _ in range(150):
            formula = rand_formula(rand, 3, range(3), 4, 2)
            try:
                outs = [(some_out(formula, 1), "some"), (all_out(formula, 1), "all")]
                made = [(machine_of(3, out), machine_of(3, (kind, 1, formula))) for out, kind in outs]
            except TooGreat:
                continue
            done += 1
            for one, other in made:
                self.assertEqual(one, other)
            self.assertEqual(with_place(without(machine_of(3, formula), 1), 1), made[0][0])
        self.assertGreater(done, 100)

    def test_other_tellings(self):
        rand = make_rand(73)
        for _ in range(120):
            formula = rand_formula(rand, 4, range(3), 6, 2, (1, 2))
            other = rand_formula(rand, 2, range(3), 6, 2)
            try:
                machine, second = machine_of(3, formula), machine_of(3, other)
                made = [machine_of(3, inward(formula)), machine_of(3, simplified(formula))]
                self.assertEqual(made, [machine, machine])
                self.assertEqual(machine_of(3, negated(formula)), turned(machine))
                self.assertEqual(machine_of(3, ("and", (formula, other))), both(machine, second))
                self.assertEqual(machine_of(3, ("or", (formula, other, formula))), either(machine, second))
                self.assertEqual(machine_of(3, trade_names(formula, 0, 2)), placed(3, machine, (2, 1, 0)))
                self.assertIs(alike(machine, second), machine == second)
                row = tuple(rand.randint(0, 9) for _ in range(3))
                moved = machine_of(3, put_in(formula, 0, (2, ((0, 1), (1, 3)))))
                self.assertIs(takes(moved, row), takes(machine, (2 + row[0] + 3 * row[1],) + row[1:]))
            except TooGreat as error:
                self.assertIn(error.most, (300, 600))


class Limits(unittest.TestCase):
    def test_wrong_ones(self):
        refuses_strange(self, BadWidth, machine_of, (), (5,))
        refused(self, (BadWidth, 5), machine_of, 5, "no formula")
        for value in STRANGE:
            refused(self, (BadFormula, (1,)), machine_of, 2, ("not", value))
        refused(self, (BadName, 2), machine_of, 2, ge(0, (2, 1), (3, 1)))
        seven = somes(range(4, 7), ge(0, *((name, 1) for name in range(7))))
        refused(self, (BadName, 3), machine_of, 3, ("and", (ge(0, (3, 1)), seven)))
        refused(self, (TooGreat, 20), machine_of, 1, somes([0] * 20, ge(0)))

    def test_names(self):
        six = ge(-1, *((name, (-1) ** name) for name in range(6)))
        seven = ge(-1, *((name, (-1) ** name) for name in range(7)))
        self.assertEqual(machine_of(4, somes((4, 5), six)), all_rows(4))
        refused(self, (TooGreat, 6), machine_of, 4, somes((4, 5, 6), seven))
        # It is the parts that count, however few names are in their parts.
        parts = ("and", (ge(-1, (0, 1), (1, 1), (2, 1)), ge(-1, (3, 1), (4, 1), (5, 1))))
        machine_of(4, somes((4, 5), parts))
        wider = ("and", (parts, ge(0, (6, 1))))
        refused(self, (TooGreat, 6), machine_of, 4, somes((4, 5, 6), wider))
        refused(self, (TooGreat, 6), machine_of, 4, ("and", (NEVER, somes((4, 5, 6), wider))))
        # Ahead of the work.
        refused(self, (TooGreat, 6), machine_of, 4, ("and", (mod(999983, 1, (0, 1)), somes((4, 5, 6), seven))))
        # Bound by an inner some they are not free: no part here has more than two.
        inner = [("some", name, eq(0, (0, 1), (name, -2))) for name in range(1, 10)]
        self.assertEqual(machine_of(1, ("and", tuple(inner))), machine_of(1, mod(2, 0, (0, 1))))

    def kept(self, many, formula, most):
        """Some step comes to just so many, none to more."""
        counts = []
        want = slow_machine(many, formula, counts)
        self.assertEqual(max(counts), most)
        self.assertEqual(machine_of(many, formula), want)

    def passed(self, many, formula, most):
        counts = []
        slow_machine(many, formula, counts)
        self.assertEqual(max(counts), most)
        refused(self, (TooGreat, 300), machine_of, many, formula)

    def test_carries(self):
        self.kept(2, ge(0, (0, 140), (1, -160)), 300)
        self.passed(2, ge(0, (0, 140), (1, -161)), 301)
        self.kept(2, mod(598, 0, (0, 1), (1, 5)), 300)
        self.passed(2, mod(301, 0, (0, 1), (1, 5)), 301)
        # Nowhere is no carry: 300 carries and a state from which nothing is taken.
        self.kept(2, eq(0, (0, 141), (1, -160)), 300)
        self.assertEqual(len(machine_of(2, eq(0, (0, 141), (1, -160)))[1]), 301)
        self.passed(2, eq(0, (0, 140), (1, -162)), 301)
        # Without names, too.
        refused(self, (TooGreat, 300), machine_of, 1, mod(999983, 1))
        self.assertEqual(machine_of(1, mod(999983, 0)), all_rows(1))
        refused(self, (TooGreat, 300), machine_of, 1, ("and", (NEVER, mod(999983, 1))))
        self.assertEqual(machine_of(1, ge(-BILLION)), no_rows(1))
        self.assertEqual(len(machine_of(1, eq(-BILLION, (0, 1)))[1]), 32)

    def test_pairs(self):
        self.kept(4, ("or", (ge(-14, (2, -3), (3, 8)), ge(-38, (0, -4), (1, 6), (2, 5), (3, -4)))), 300)
        self.passed(4, ("and", (eq(32, (0, 8), (2, -3)), ge(27, (1, -7), (2, 7), (3, 6)))), 301)
        # From the left: what comes of the first two is small, of the last two it is not.
        one, two = eq(32, (0, 8), (2, -3)), ge(27, (1, -7), (2, 7), (3, 6))
        self.assertEqual(machine_of(4, ("and", (NEVER, one, two))), no_rows(4))
        refused(self, (TooGreat, 300), machine_of, 4, ("and", (one, two, NEVER)))
        refused(self, (TooGreat, 300), machine_of, 4, ("and", (NEVER, ("and", (one, two)))))
        # A state from which nothing is taken counts in pairs: without it these would be few enough.
        first, second = machine_of(4, one), machine_of(4, two)
        pairs, _ = reach((0, 0), lambda pair: list(zip(first[1][pair[0]], second[1][pair[1]])))
        nowhere = [state for state in range(20) if first[1][state] == (state,) * 16]
        self.assertEqual([len(pairs), len([pair for pair in pairs if pair[0] not in nowhere]) < 301], [301, True])

    def test_sets(self):
        self.kept(2, ("some", 2, ("and", (ge(26, (0, 5), (1, -2), (2, 4)), ge(-11, (0, 1), (1, 3), (2, -2))))), 300)
        formula = ("some", 2, ("or", (ge(-20, (0, -3), (2, 5)), eq(-10, (0, -5), (1, 3), (2, -2)))))
        self.passed(2, formula, 301)
        # An all is worked as a not of a some of a not.
        refused(self, (TooGreat, 300), machine_of, 2, ("all", 2, ("not", formula[2])))
        self.kept(2, ("all", 2, ("not", ("and", (ge(26, (0, 5), (1, -2), (2, 4)), ge(-11, (0, 1), (1, 3), (2, -2)))))), 300)
        # A name that is not free takes no step.
        big = eq(0, (0, 141), (1, -160))
        self.assertEqual(machine_of(2, ("all", 2, ("some", 3, big))), machine_of(2, big))

    def test_beside_the_slow_way(self):
        rand = make_rand(74)
        great = 0
        for _ in range(400):
            formula = rand_formula(rand, rand.randint(2, 4), range(4), rand.choice((6, 40)), rand.choice((3, 9)), (2, 3))
            counts = []
            try:
                want = slow_machine(4, formula, counts, most=450)
            except TooMany:
                counts.append(451)
            if max(counts, default=0) > 300:
                great += 1
                refused(self, (TooGreat, 300), machine_of, 4, formula)
            else:
                self.assertTrue(same_value(machine_of(4, formula), want))
        self.assertGreater(great, 2)

    def test_atoms_beside_the_slow_way(self):
        rand = make_rand(75)
        for _ in range(200):
            pairs = tuple((name, rand.choice((-9, -4, -1, 1, 2, 6))) for name in range(4) if rand.random() < 0.5)
            const = rand.choice((0, -1, 5, rand.randint(-BILLION, BILLION)))
            for atom in (ge(const, *pairs), eq(const, *pairs), mod(rand.randint(2, 60), const, *pairs)):
                counts = []
                try:
                    slow_atom(atom, counts, 400)
                except TooMany:
                    counts.append(401)
                if counts[0] > 300:
                    refused(self, (TooGreat, 300), machine_of, 4, atom)
                else:
                    self.assertTrue(same_value(machine_of(4, atom), slow_machine(4, atom)))


if __name__ == "__main__":
    unittest.main()
