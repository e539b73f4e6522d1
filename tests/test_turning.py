"""Points 42 to 46: formulas turned into sets and back, whole questions about sets."""

import unittest

from tests.helpers import (
    ALWAYS, BILLION, NEVER, NUMBER, STRANGE, by_names, eq, ge, make_rand, mod, nots, rand_formula, refused,
    refuses_strange, somes, tried)
from tests.trying import box, rand_set, slow_rows
from wholesay.asking import first_apart, is_within
from wholesay.equations import told_set
from wholesay.errors import (
    BadFormula, BadName, BadSet, BadWidth, NoRow, NotPlain, SayError, TooGreat, Unlike)
from wholesay.forms import simplified
from wholesay.formulas import holds_at
from wholesay.lines import made_set
from wholesay.linework import has, ordered, union
from wholesay.machines import takes
from wholesay.reading import machine_of
from wholesay.truth import truth_at
from wholesay.turning import formula_of, machine_of_set, set_apart, set_less, set_of, set_others, set_within

EVEN = (1, (((0,), ((2,),)),))
ODD = (1, (((1,), ((2,),)),))
ALL = (1, (((0,), ((1,),)),))
X = ge(0, (0, 1))


class SetOf(unittest.TestCase):
    def test_examples(self):
        self.assertEqual(set_of(1, ("not", mod(3, 1, (0, 1)))), (1, (((0,), ((3,),)), ((1,), ((3,),)))))
        self.assertEqual(set_of(many=2, formula=NEVER), (2, ()))
        self.assertEqual(set_of(2, ALWAYS), (2, (((0, 0), ((0, 1), (1, 0))),)))
        self.assertEqual(set_of(2, ge(-1, (0, 2), (1, -3))),
                         (2, (((1, 0), ((1, 0), (2, 1), (3, 2))), ((2, 1), ((1, 0), (2, 1), (3, 2))))))
        # Lines of told_set, no other ones: the first number of 2 x0 >= 3 x1 + 1.
        self.assertEqual(set_of(1, ("some", 1, ge(-1, (0, 2), (1, -3)))),
                         (1, (((1,), ((1,), (2,), (3,))), ((2,), ((1,), (2,), (3,))))))
        self.assertEqual(set_of(1, nots(2, ("some", 0, eq(-1, (0, 1))))), ALL)
        # x0 + x5 = 7 does not hold with each x5: of ge on either side of it come these lines.
        self.assertEqual(set_of(1, ("not", ("all", 5, eq(-7, (0, 1), (5, 1))))),
                         told_set(1, (2, (("ge", (1, 1), -8),)))[:1] + (tuple(sorted(set(
                             told_set(1, (2, (("ge", (1, 1), -8),)))[1] + told_set(1, (2, (("ge", (-1, -1), 6),)))[1]))),))

    def test_lines_are_those_of_told_set(self):
        formula = ("and", (("or", (eq(-4, (0, 1), (2, -2)), ge(-3, (1, 1)))), ("not", mod(3, 4, (0, 1), (1, 1)))))
        lines = set()
        for one in (("eq", (1, 0, -2), -4), ("ge", (0, 1, 0), -3)):
            for rest in (0, 2):
                lines |= set(told_set(2, (3, (one, ("mod", 3, (1, 1, 0), rest))))[1])
        # The unknown of the name 2 stands in the first alternatives alone.
        have = set_of(2, ("some", 2, formula))
        want = set()
        for rest in (0, 2):
            want |= set(told_set(2, (3, (("eq", (1, 0, -2), -4), ("mod", 3, (1, 1, 0), rest))))[1])
            want |= set(told_set(2, (2, (("ge", (0, 1), -3), ("mod", 3, (1, 1), rest))))[1])
        self.assertEqual(have, (2, tuple(sorted(want))))

    def test_beside_formulas(self):
        rand = make_rand(4201)
        told = back = machines = 0
        for _ in range(260):
            many = rand.randint(1, 3)
            formula = rand_formula(rand, rand.randint(1, 4), range(many))
            try:
                made = set_of(many, formula)
            except TooGreat:
                continue
            told += 1
            top = (14, 6, 3)[many - 1]
            rows = slow_rows(made, top)
            self.assertEqual(rows, {row for row in box(many, top) if tried(formula, by_names(row))}, formula)
            try:
                again = formula_of(made)
            except TooGreat:
                continue
            back += 1
            self.assertEqual({row for row in box(many, top) if holds_at(again, row)}, rows)
            try:
                self.assertEqual(machine_of(many, formula), machine_of_set(made))
                machines += 1
            except TooGreat:
                continue
        self.assertTrue(told > 200 and back > 180 and machines > 150, (told, back, machines))

    def test_with_somes(self):
        rand = make_rand(4202)
        told = 0
        for _ in range(150):
            many = rand.randint(1, 2)
            inner = rand_formula(rand, rand.randint(1, 3), range(3), 4, 2)
            formula = rand.choice((somes((2,), inner), ("not", ("all", 2, inner)),
                                   ("and", (somes((2,), inner), rand_formula(rand, 2, range(many)))),
                                   ("or", (somes((2, 0), inner), somes((2,), inner)))))
            formula = ("some", 1, formula) if many == 1 else formula
            try:
                made = set_of(many, formula)
                machine = machine_of(many, formula)
            except TooGreat:
                continue
            told += 1
            top = (20, 7)[many - 1]
            rows = slow_rows(made, top)
            for row in box(many, top):
                self.assertIs(takes(machine, row), row in rows, (formula, row))
        self.assertGreater(told, 100)

    def test_great(self):
        formula = ("and", (ge(5, (0, 1), (1, -7)), ("not", mod(2, 1, (0, 1), (1, 1)))))
        made = set_of(2, formula)
        for row in ((NUMBER, NUMBER // 7), (NUMBER, NUMBER // 3), (NUMBER - 1, 12), (NUMBER // 3, NUMBER // 7)):
            self.assertIs(has(made, row), truth_at(2, formula, row))

    def test_names_of_their_own(self):
        # The inner name 0 is not the place 0, and two somes of one name are two unknowns.
        self.assertEqual(set_of(1, ("and", (eq(-4, (0, 1)), ("some", 0, eq(-7, (0, 1)))))), (1, (((4,), ()),)))
        both = ("and", (("some", 1, eq(0, (0, 1), (1, -2))), ("some", 1, eq(0, (0, 1), (1, -3)))))
        self.assertEqual(set_of(1, both), (1, (((0,), ((6,),)),)))
        self.assertEqual(set_of(1, ("some", 9, ("some", 9, eq(0, (0, 1), (9, -5))))), (1, (((0,), ((5,),)),)))
        turned = ("some", 3, ("and", (eq(0, (0, 1), (3, -4)), ("some", 2, eq(-1, (2, 2), (3, -1))))))
        self.assertEqual(slow_rows(set_of(1, turned), 40), {(row,) for row in range(0, 41, 4) if row // 4 % 2 == 1})


class SetOfErrors(unittest.TestCase):
    def test_formula(self):
        refuses_strange(self, BadWidth, set_of, (), (None,))
        refused(self, (BadFormula, ()), set_of, 1, None)
        refused(self, (BadName, 1), set_of, 1, ("and", (ge(0, (1, 1)), ("all", 0, mod(2000, 0, (0, 1))))))
        for path, formula in (((), ("all", 0, X)), ((1,), ("not", ("some", 1, X))), ((1, 1, 1), ("not", ("and", (X, ("some", 0, X))))),
                              
                              ((1, 1), ("and", (("some", 0, X), ("all", 0, X)))), ((1, 1), nots(2, ("all", 1, X))),
                              ((1, 0, 2), ("or", (("some", 1, ("all", 2, ("not", ("some", 3, X)))),))),
                              ((1, 2), ("not", ("all", 1, ("some", 2, X))))):
            refused(self, (NotPlain, path), set_of, 2, formula)
        # Ahead of any number that is too great, wherever it stands.
        refused(self, (NotPlain, (1, 1)), set_of, 1, ("and", (ge(5000, (0, 1)), ("all", 0, X))))
        refused(self, (NotPlain, (1, 2, 1)), set_of, 1, ("not", ("all", 1, ("not", ("all", 2, X)))))
        self.assertEqual(set_of(1, ("not", ("all", 1, nots(2, ("all", 2, ("not", X)))))), ALL)

    def test_numbers(self):
        for formula in (mod(1000, 999, (0, 100)), ge(999, (0, -100)), eq(-999, (0, 100)), ("not", ge(999, (0, 1)))):
            set_of(1, formula)
        for most, atom in ((1000, mod(1001, 0, (0, 1))), (1000, mod(1001, 1000, (0, 101))), (999, ge(1000, (0, 1))),
                           (999, eq(-1000, (0, 101))), (999, mod(1000, 1000, (0, 101))), (100, ge(0, (0, 101))),
                           (100, eq(0, (0, -101))), (100, mod(7, 0, (0, 1), (1, 101)))):
            refused(self, (TooGreat, most), set_of, 2, atom)
            refused(self, (TooGreat, most), set_of, 2, ("or", (X, nots(2, atom))))
        # The first atom of the walk is told, whatever the second one has.
        refused(self, (TooGreat, 100), set_of, 1, ("and", (("or", (ge(0, (0, 101)),)), mod(1001, 0, (0, 1)))))
        refused(self, (TooGreat, 1000), set_of, 1, ("and", (("or", (mod(1001, 0, (0, 1)),)), ge(0, (0, 101)))))
        # Ahead of what `inward` raises.
        many = ("not", ("and", (eq(1),) * 700))
        refused(self, (TooGreat, 2000), set_of, 1, many)
        refused(self, (TooGreat, 999), set_of, 1, ("not", ("and", (eq(1),) * 700 + (ge(1000),))))

    def test_alternatives(self):
        twelve = [ge(at, (0, 1)) for at in range(12)]
        self.assertEqual(set_of(1, ("and", tuple(twelve + twelve[:3]))), ALL)
        refused(self, (TooGreat, 12), set_of, 1, ("and", tuple(twelve) + (eq(-5, (0, 1)),)))
        refused(self, (TooGreat, 12), set_of, 1, ("and", tuple(twelve) + (eq(-5, (0, 1)), NEVER)))
        self.assertEqual(set_of(1, ("and", tuple(twelve) + (NEVER,))), (1, ()))
        points = [eq(-at, (0, 1)) for at in range(65)]
        self.assertEqual(len(set_of(1, ("or", tuple(points[:64] * 2)))[1]), 64)
        refused(self, (TooGreat, 64), set_of, 1, ("or", tuple(points)))
        self.assertEqual(len(set_of(1, ("not", mod(65, 0, (0, 1))))[1]), 64)
        refused(self, (TooGreat, 64), set_of, 1, ("not", mod(66, 0, (0, 1))))
        eight = ("or", tuple(points[:8]))
        self.assertEqual(set_of(1, ("and", (eight, ("or", tuple(points[8:16]))))), (1, ()))
        refused(self, (TooGreat, 64), set_of, 1, ("and", (eight, ("or", tuple(points[8:17])))))
        refused(self, (TooGreat, 64), set_of, 1, ("and", (NEVER, ("or", tuple(points)))))
        # An unknown of its own for each some, so equal ones count twice.
        one = ("some", 1, eq(0, (0, 1), (1, -1)))
        refused(self, (TooGreat, 64), set_of, 1, ("or", (one,) * 65))
        self.assertEqual(set_of(1, ("or", (one,) * 64)), ALL)

    def test_told_sets(self):
        unknowns = eq(0, (0, 1), *[(name, -1) for name in range(1, 10)])
        whole = somes(range(1, 10), unknowns)
        self.assertEqual(set_of(1, whole), (1, (((0,), ((1,),)),)))
        two = somes((1, 2), eq(-3, (0, 1), (1, -1), (2, -1)))
        self.assertEqual(len(set_of(1, ("and", (whole, two)))[1]), 1)
        refused(self, (TooGreat, 12), set_of, 1, ("and", (whole, somes((1, 2, 3), eq(0, (1, 1), (2, 1), (3, -1))))))
        refused(self, (TooGreat, 400), set_of, 2, eq(-400, (0, 1), (1, 1)))
        refused(self, (TooGreat, 12), set_of, 2, mod(12, 0, (0, 1), (1, 1)))
        great = ("and", tuple(mod(modulus, 0, (0, 1)) for modulus in (1000, 999, 997, 7)))
        refused(self, (TooGreat, BILLION), set_of, 1, great)
        # Alternative by alternative: the first one tells.
        refused(self, (TooGreat, BILLION), set_of, 2, ("or", (great, mod(12, 0, (0, 1), (1, 1)))))
        refused(self, (TooGreat, 12), set_of, 2, ("or", (mod(12, 0, (0, 1), (1, 1)), great)))

    def test_lines(self):
        kept = ("or", (eq(-198, (0, 1), (1, 1)), eq(-200, (0, 1), (1, 1))))
        self.assertEqual(len(set_of(2, kept)[1]), 400)
        refused(self, (TooGreat, 400), set_of, 2, ("or", kept[1] + (eq(0, (0, 1), (1, 1)),)))
        self.assertEqual(len(set_of(2, ("or", kept[1] + (("and", (eq(-1, (0, 1)), eq(-197, (1, 1)))),)))[1]), 400)


class FormulaOf(unittest.TestCase):
    def test_example(self):
        value = (2, (((1, 0), ((1, 2), (3, 0))),))
        first, second = (0, ((1, 3),)), (-2, ((0, 2), (1, -1)))
        self.assertEqual(formula_of(value), ("or", (("and", (
            ("ge", first), ("mod", 6, first), ("ge", second), ("mod", 6, second))),)))

    def test_clauses(self):
        self.assertEqual(formula_of(value=(1, ())), NEVER)
        self.assertEqual(formula_of((2, (((3, 4), ()),))), ("or", (("and", (eq(-3, (0, 1)), eq(-4, (1, 1)))),)))
        self.assertEqual(formula_of((1, (((2,), ((1,),)),))), ("or", (("and", (ge(-2, (0, 1)),)),)))
        # The square is (1,), as the period has 0 at the place 0; the other places come behind.
        self.assertEqual(formula_of((3, (((1, 2, 3), ((0, 2, 5),)),))), ("or", (("and", (
            ge(-2, (1, 1)), mod(2, -2, (1, 1)), eq(-2, (0, 2)), eq(4, (1, -5), (2, 2)))),)))
        # A determinant below 0: the sign goes to the terms.
        self.assertEqual(formula_of((2, (((0, 0), ((0, 2), (3, 0))),))), ("or", (("and", (
            ge(0, (1, 3)), mod(6, 0, (1, 3)), ge(0, (0, 2)), mod(6, 0, (0, 2)))),)))
        # The lines of the ordered set, in their order.
        value = (1, (((0,), ((2,), (3,))),))
        self.assertEqual(formula_of(value), ("or", (("and", (ge(0, (0, 1)), mod(2, 0, (0, 1)))),
                                                    ("and", (ge(-3, (0, 1)), mod(2, -3, (0, 1)))))))

    def test_rows(self):
        rand = make_rand(4301)
        machines = 0
        for _ in range(150):
            many = rand.randint(1, 4)
            value = rand_set(rand, many, 3, 4, 3)
            try:
                formula = formula_of(value)
            except TooGreat:
                continue
            top = (20, 9, 5, 3)[many - 1]
            rows = slow_rows(value, top)
            self.assertEqual({row for row in box(many, top) if holds_at(formula, row)}, rows)
            try:
                machine = machine_of_set(value)
            except TooGreat:
                continue
            machines += 1
            for row in box(many, min(top, 5)):
                self.assertIs(takes(machine, row), row in rows)
            if many < 3:
                try:
                    again = set_of(many, formula)
                except TooGreat:
                    continue
                self.assertEqual(slow_rows(again, top), rows)
        self.assertGreater(machines, 80)

    def test_limits(self):
        refused(self, (BadSet, 0), formula_of, None)
        refused(self, (TooGreat, 400), formula_of, (1, (((0,), ((401,), (402,))),)))
        self.assertEqual(len(formula_of((2, (((0, 0), ((0, 1000), (1000, 0))),)))[1][0][1]), 4)
        refused(self, (TooGreat, 10 ** 6), formula_of, (2, (((0, 0), ((0, 1000), (1001, 0))),)))
        self.assertEqual(formula_of((1, (((BILLION,), ((10 ** 6,),)),)))[1][0][1][1], mod(10 ** 6, -BILLION, (0, 1)))
        refused(self, (TooGreat, 10 ** 6), formula_of, (1, (((BILLION,), ((10 ** 6 + 1,),)),)))
        # A constant: 2 times the base; a factor: of the period at the other place.
        half = BILLION // 2
        self.assertEqual(formula_of((2, (((0, half), ((2, 0),)),)))[1][0][1][2], eq(-BILLION, (1, 2)))
        refused(self, (TooGreat, BILLION), formula_of, (2, (((0, half + 1), ((2, 0),)),)))
        self.assertEqual(formula_of((2, (((0, 0), ((1, BILLION),)),)))[1][0][1][1], eq(0, (0, -BILLION), (1, 1)))
        refused(self, (TooGreat, BILLION), formula_of, (3, (((0, 0, 0), ((1, 0, BILLION), (1, 2, 0))),)))
        # Line by line.
        lines = (((0, 0, 0), ((1, 0, BILLION), (1, 2, 0))), ((0, 0, 1), ((0, 0, 10 ** 6 + 1),)))
        refused(self, (TooGreat, BILLION), formula_of, (3, lines))
        refused(self, (TooGreat, 10 ** 6), formula_of, made_set(3, (((0, 0, 0), lines[1][1]), ((0, 0, 1), lines[0][1]))))
        # 1 + 399 times 5 parts and one line of 4 more; then 5 more.
        lines = [((at, 1, 1, 1), ()) for at in range(399)]
        self.assertEqual(len(formula_of((4, tuple(lines)))[1]), 399)
        lines[-1:] = [((398, 1, 1, 1), ()), ((400, 1, 1, 1), ())]
        refused(self, (TooGreat, 2000), formula_of, (4, tuple(lines)))


class Questions(unittest.TestCase):
    def test_machine_of_set(self):
        self.assertEqual(machine_of_set(value=EVEN), machine_of(1, mod(2, 0, (0, 1))))
        self.assertEqual(machine_of_set((2, ())), machine_of(2, NEVER))
        refused(self, (BadSet, 0), machine_of_set, None)
        refused(self, (TooGreat, 10 ** 6), machine_of_set, (1, (((0,), ((10 ** 6 + 1,),)),)))
        refused(self, (TooGreat, 300), machine_of_set, (1, (((0,), ((601,),)),)))

    def test_within_and_apart(self):
        self.assertIs(set_within(one=EVEN, other=ALL), True)
        self.assertIs(set_within(ALL, EVEN), False)
        self.assertIs(set_within((1, (((0,), ((4,), (6,))),)), EVEN), True)
        self.assertIs(set_within(ALL, union(EVEN, ODD)), True)
        self.assertEqual(set_apart(one=EVEN, other=(1, (((0,), ((4,), (6,))),))), (2,))
        refused(self, (NoRow,), set_apart, ALL, union(EVEN, ODD))
        great = (1, (((10 ** 6,), ()),))
        self.assertEqual(set_apart((1, ()), great), (10 ** 6,))
        rand = make_rand(4501)
        told = 0
        for _ in range(80):
            many = rand.randint(1, 2)
            one, other = rand_set(rand, many, 2, 3, 2), rand_set(rand, many, 2, 3, 2)
            try:
                first, second = machine_of_set(one), machine_of_set(other)
                self.assertIs(set_within(one, other), is_within(first, second))
            except TooGreat:
                continue
            told += 1
            if ordered(one) == ordered(other):
                refused(self, (NoRow,), set_apart, one, other)
            elif first != second:
                row = first_apart(first, second)
                self.assertEqual(set_apart(one, other), row)
                self.assertNotEqual(has(one, row), has(other, row))
            if slow_rows(one, 8) - slow_rows(other, 8):
                self.assertIs(set_within(one, other), False)
        self.assertGreater(told, 50)

    def test_wrong(self):
        too_great = (1, (((0,), ((10 ** 6 + 1,),)),))
        many_states = (1, (((0,), ((601,),)),))
        for call in (set_within, set_apart, set_less):
            refused(self, (BadSet, 0), call, None, (1, (None,)))
            refused(self, (BadSet, 1), call, EVEN, (1, (None,)))
            refused(self, (Unlike, (2, ())), call, EVEN, (2, ()))
            refused(self, (Unlike, EVEN), call, (2, (((0, 0), ((0, 10 ** 6 + 1),)),)), EVEN)
        for call in (set_within, set_apart):
            refused(self, (TooGreat, 300), call, many_states, too_great)
            refused(self, (TooGreat, 10 ** 6), call, too_great, many_states)
            refused(self, (TooGreat, 300), call, EVEN, many_states)
        refused(self, (BadSet, 0), set_others, None)
        for value in STRANGE:
            refused(self, (BadSet, 0), set_less, value, value)


class Others(unittest.TestCase):
    def test_others(self):
        self.assertEqual(set_others(value=EVEN), set_of(1, simplified(("not", formula_of(EVEN)))))
        self.assertEqual(slow_rows(set_others(EVEN), 9), slow_rows(ODD, 9))
        self.assertEqual(set_others((2, ())), (2, (((0, 0), ((0, 1), (1, 0))),)))
        self.assertEqual(set_others(ALL), (1, ()))
        rand = make_rand(4601)
        told = less = 0
        for _ in range(150):
            many = rand.randint(1, 3)
            one, other = rand_set(rand, many, 2, 3, 2), rand_set(rand, many, 1, 3, 2)
            top = (20, 8, 4)[many - 1]
            rows, minus = slow_rows(one, top), slow_rows(other, top)
            try:
                found = set_others(one)
                self.assertEqual(slow_rows(found, top), set(box(many, top)) - rows)
                told += 1
            except TooGreat:
                pass
            try:
                found = set_less(one, other)
                self.assertEqual(slow_rows(found, top), rows - minus)
                less += 1
            except TooGreat:
                pass
        self.assertTrue(told > 60 and less > 60, (told, less))

    def test_less(self):
        self.assertEqual(slow_rows(set_less(one=ALL, other=EVEN), 9), slow_rows(ODD, 9))
        self.assertEqual(set_less(EVEN, EVEN), (1, ()))
        formula = ("and", (formula_of(ODD), ("not", formula_of(EVEN))))
        self.assertEqual(set_less(ODD, EVEN), set_of(1, simplified(formula)))
        big = (4, tuple(((at, 1, 1, 1), ()) for at in range(399)))
        refused(self, (TooGreat, 64), set_less, big, (4, ()))
        refused(self, (TooGreat, 10 ** 6), set_less, (1, (((0,), ((10 ** 6 + 1,),)),)), EVEN)
        refused(self, (TooGreat, 1000), set_less, EVEN, (1, (((0,), ((1001,),)),)))
        refused(self, (TooGreat, 999), set_others, (1, (((1000,), ()),)))
        self.assertEqual(slow_rows(set_others((1, (((300,), ()),))), 400), {(at,) for at in range(401) if at != 300})
        refused(self, (TooGreat, 400), set_others, (1, (((999,), ()),)))

    def test_errors_of_simplified(self):
        # 395 lines of 5 parts and 4 of 6 make 2,000 parts; the not ahead is one too many.
        lines = tuple(((at, 1, 1, 1), ()) for at in range(395))
        lines += tuple(((at, 1, 1, 1), ((0, 2, 0, 0),)) for at in range(1001, 1005))
        formula = formula_of((4, lines))
        self.assertEqual(1 + sum(1 + len(each[1]) for each in formula[1]), 2000)
        refused(self, (TooGreat, 2000), set_others, (4, lines))
        refused(self, (TooGreat, 2000), set_less, (4, ()), (4, lines))

    def test_any_error_is_one_of_the_package(self):
        rand = make_rand(4602)
        for _ in range(40):
            value = rand_set(rand, 4, 3, 9, 5)
            try:
                self.assertEqual(slow_rows(set_others(value), 2), set(box(4, 2)) - slow_rows(value, 2))
            except SayError as error:
                self.assertIsInstance(error, TooGreat)


if __name__ == "__main__":
    unittest.main()
