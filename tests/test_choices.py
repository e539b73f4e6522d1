"""Points 72 to 76: least and greatest choices, pieces, straight lines, flaws of any choice."""

import unittest
from itertools import product
from math import gcd

from tests.helpers import (
    ALWAYS, NEVER, NUMBER, STRANGE, by_names, eq, ge, make_rand, mod, nots, rand_formula, refused, somes, term_value,
    tried)
from wholesay.choices import flaw_of, greatest_choice, least_choice, pieces, straight
from wholesay.errors import BadFormula, BadName, BadWidth, NotPlain, TooGreat
from wholesay.formulas import free_names, is_plain, measures, need_formula
from wholesay.reading import machine_of
from wholesay.takeout import candidates_of, work_of
from wholesay.truth import least_number

EXAMPLE = ("and", (("ge", (0, ((0, -1), (1, 2)))), ("mod", 2, (0, ((1, 1),)))))
MADE = (least_choice, greatest_choice, pieces)


def either(*parts):
    return ("or", parts)


def first_true(truths):
    return truths.index(True) if True in truths else None


class Made(unittest.TestCase):
    def some(self, seed, times):
        rand = make_rand(seed)
        for _ in range(times):
            many = rand.choice((2, 2, 3))
            formula = rand_formula(rand, rand.randint(1, 3), range(many), 4, 2)
            for row in product(range(4), repeat=many - 1):
                # Behind 40 the truth goes round with a period of 12 at most.
                yield many, formula, row, [tried(formula, by_names(row + (y,))) for y in range(60)]

    def test_least_choice(self):
        last = None
        for many, formula, row, truths in self.some(7301, 150):
            if formula is not last:
                choice, last = least_choice(many=many, formula=formula), formula
                self.assertIs(is_plain(choice), True)
                self.assertLess(max(free_names(choice), default=0), many)
            least = first_true(truths)
            self.assertEqual([tried(choice, by_names(row + (y,))) for y in range(60)], [y == least for y in range(60)])

    def test_greatest_choice(self):
        last = None
        endless = 0
        for many, formula, row, truths in self.some(7302, 150):
            if formula is not last:
                choice, last = greatest_choice(many=many, formula=formula), formula
                self.assertIs(is_plain(choice), True)
                self.assertLess(max(free_names(choice), default=0), many)
            often = any(truths[40:])
            endless += often
            most = None if often or True not in truths else 59 - truths[::-1].index(True)
            self.assertEqual([tried(choice, by_names(row + (y,))) for y in range(60)], [y == most for y in range(60)])
        self.assertGreater(endless, 100)

    def test_pieces(self):
        last = None
        for many, formula, row, truths in self.some(7401, 150):
            if formula is not last:
                found, last = pieces(many=many, formula=formula), formula
                some = [candidate for _, candidate in found]
                self.assertEqual(some, sorted(set(some)))
                self.assertTrue(set(some) <= set(candidates_of(formula, many - 1)))
                for condition, _ in found:
                    self.assertIs(need_formula(condition), condition)
                    self.assertIs(is_plain(condition), True)
                    self.assertTrue(all(name < many - 1 for name in free_names(condition)))
            least = first_true(truths)
            held = []
            for condition, (term, divisor) in found:
                value = term_value(term, row)
                fits = value >= 0 and value % divisor == 0 and value // divisor == least
                held.append(tried(condition, by_names(row)))
                self.assertIs(held[-1], fits)
            self.assertIs(any(held), least is not None)

    def test_great_rows(self):
        choice = least_choice(2, EXAMPLE)
        for number in range(NUMBER - 9, NUMBER + 1):
            least = least_number(2, EXAMPLE, 1, (number, 0))
            for more in range(-4, 5):
                self.assertIs(tried(choice, by_names((number, least + more))), more == 0)
            told = [term_value(term, (number,)) // divisor for condition, (term, divisor) in pieces(2, EXAMPLE)
                    if tried(condition, by_names((number,)))]
            self.assertEqual(set(told), {least})
        below = ge(3, (0, 2), (1, -3))
        choice = greatest_choice(2, below)
        for number in (0, 1, 2, NUMBER):
            most = (2 * number + 3) // 3
            for more in range(-1, 2):
                self.assertIs(tried(choice, by_names((number, most + more))), more == 0)

    def test_limits(self):
        for call in MADE:
            self.assertTrue(call(2, nots(10, either(ge(0, (0, 1), (1, -1))))))
            refused(self, (TooGreat, 20), call, 2, nots(12, ge(0, (0, 1), (1, -1))))
            refused(self, (TooGreat, 20), call, 2, nots(12, mod(125, 0, (1, 1))))
            self.assertTrue(call(2, mod(124, 0, (0, 1), (1, 1))))
            refused(self, (TooGreat, 2000), call, 2, mod(125, 0, (0, 1), (1, 1)))
            # 1,994 of work, 5 parts and 1 are let; 1,974, 27 and 1 are not.
            self.assertTrue(call(2, either(mod(41, 0, (1, 1)), ge(0, (1, 2)), eq(0, (0, 1)), eq(0, (0, 1)))))
            much = either(mod(13, 0, (1, 1)), ge(0, (1, 2)), eq(0, (1, 1)), eq(0, (1, 1)), *[eq(0, (0, 1))] * 22)
            refused(self, (TooGreat, 2000), call, 2, much)
            call(2, ge(12909, (0, 1), (1, 1)))
            refused(self, (TooGreat, 10 ** 9), call, 2, ge(12910, (0, 1), (1, 1)))
            refused(self, (TooGreat, 10 ** 9), call, 2, ge(0, (0, 12910), (1, 1)))
            self.assertTrue(call(2, ge(10 ** 9, (0, 1))) is not None)
            call(2, mod(1000, 1000, (1, 500)))
            refused(self, (TooGreat, 10 ** 6), call, 2, mod(1000, 1001, (1, 500)))
            # In this order.
            refused(self, (TooGreat, 2000), call, 2, either(mod(125, 0, (1, 1)), ge(12910, (1, 1))))
            refused(self, (TooGreat, 10 ** 9), call, 2, either(ge(12910, (1, 1)), mod(1000, 1001, (1, 500))))
        none = ("not", ("and", (mod(124, 0, (0, 1), (2, 1)), ge(-1, (1, 1), (2, -1)))))
        self.assertEqual(work_of(none, 2), 1994)

    def test_what_is_made_is_a_formula(self):
        for formula in (mod(124, 7, (0, 1), (1, 1)), nots(11, mod(51, 0, (0, 1), (1, 1))),
                        nots(11, ge(-7, (0, 3), (1, -5))), nots(10, ("and", (ge(0, (0, 1), (1, -9)), eq(0, (1, 7)))))):
            for call in MADE[:2]:
                found = call(2, formula)
                self.assertIs(need_formula(found), found)
                self.assertLessEqual(measures(found)[0], 2000)
            self.assertTrue(all(need_formula(condition) is condition for condition, _ in pieces(2, formula)))

    def test_wrong(self):
        for call in MADE:
            for many in STRANGE + (0, 1, 5):
                refused(self, (BadWidth, many), call, many, None)
            refused(self, (BadFormula, ()), call, 2, None)
            refused(self, (BadFormula, (1, 1)), call, 4, ("and", (ge(0), 5)))
            refused(self, (BadName, 2), call, 2, ("some", 1, ge(0, (2, 1))))
            refused(self, (NotPlain, (1, 0)), call, 2, ("and", (somes((1,), ge(0, (1, 1))), nots(15, ge(0)))))
            refused(self, (TooGreat, 20), call, 2, nots(20, ge(0)))


class Straight(unittest.TestCase):
    def test_the_example(self):
        self.assertEqual(straight(EXAMPLE), (0, 4, (), ((1, 0, 2), (1, 3, 2), (1, 2, 2), (1, 1, 2))))

    def test_some(self):
        self.assertEqual(straight(formula=ALWAYS), (0, 1, (), ((0, 0, 1),)))
        self.assertEqual(straight(NEVER), (0, 1, (), (None,)))
        self.assertEqual(straight(eq(0, (0, 1), (1, -2))), (0, 2, (), ((1, 0, 2), None)))
        self.assertEqual(straight(ge(-5, (0, 1))), (5, 1, (None,) * 5, ((0, 0, 1),)))
        # From 10 - x on: nothing is asked any more from 10 on.
        self.assertEqual(straight(ge(-10, (0, 1), (1, 1))), (10, 1, tuple(range(10, 0, -1)), ((0, 0, 1),)))
        self.assertEqual(straight(("and", (ge(-3, (0, -1), (1, 2)), ge(1, (0, -3), (1, 1))))), (
            1, 1, (2,), ((3, -1, 1),)))
        # A piece of the lines is no need to begin with them: at 3 the line would tell 0, too.
        self.assertEqual(straight(("and", (ge(-3, (0, 1)), ge(3, (0, -1), (1, 1))))), (3, 1, (None,) * 3, ((1, -3, 1),)))
        self.assertEqual(straight(("or", (ge(-3, (0, 1)), eq(-9, (1, 1))))), (3, 1, (9,) * 3, ((0, 0, 1),)))

    def test_beside_trying(self):
        rand = make_rand(7501)
        late = longer = 0
        for _ in range(400):
            formula = rand_formula(rand, rand.randint(1, 3), (0, 1), rand.choice((4, 8)), rand.choice((2, 3)))
            start, period, firsts, lines = straight(formula)
            self.assertEqual((len(firsts), len(lines)), (start, period))
            late += start > 2
            longer += period > 1
            told = []
            for x in range(start + 2 * period):
                line = lines[x % period]
                if line is not None:
                    alpha, beta, delta = line
                    self.assertEqual(gcd(alpha, beta, delta), 1)
                    self.assertGreater(delta, 0)
                if x < start:
                    told.append(firsts[x])
                elif line is None:
                    told.append(None)
                else:
                    self.assertEqual((alpha * x + beta) % delta, 0)
                    told.append((alpha * x + beta) // delta)
            near = [first_true([tried(formula, by_names((x, y))) for y in range(200)]) for x in range(min(len(told), 50))]
            self.assertEqual([each for each in told[:50] if each is None or each < 200], near)
            if start:
                self.assertFalse(self.is_told(lines, start - 1, told[start - 1]))
            self.assertFalse(any(period % less == 0 and all(lines[at] == lines[at % less] for at in range(period))
                                 for less in range(1, period)))
        self.assertGreater(min(late, longer), 20)

    def test_crossings(self):
        rand = make_rand(7502)
        late = 0
        for _ in range(400):
            parts = []
            for _ in range(rand.randint(1, 3)):
                kind = rand.choice((ge, ge, ge, eq))
                low = kind(rand.randint(-12, 12), (0, rand.choice((-5, -3, -2, -1, 1))), (1, rand.choice((1, 2, 3, 5))))
                rest = mod(rand.randint(2, 4), rand.randint(0, 3), (0, rand.randint(1, 3)), (1, rand.choice((-2, -1, 1, 1))))
                far = rand.choice((ge(rand.randint(-12, 0), (0, 1)), ge(rand.randint(0, 12), (0, -1)), ALWAYS))
                parts.append(("and", (low, rest, far)))
            formula = ("or", tuple(parts))
            try:
                start, period, firsts, lines = straight(formula)
            except TooGreat:
                continue
            late += start > 5
            values = [first_true([tried(formula, by_names((x, y))) for y in range(5 * x + 40)]) for x in range(50)]
            self.assertEqual(firsts[:50], tuple(values[:start]))
            for x in range(50):
                if x >= start:
                    self.assertTrue(self.is_told(lines, x, values[x]), (formula, x))
            if 0 < start <= 50:
                self.assertFalse(self.is_told(lines, start - 1, values[start - 1]), formula)
        self.assertGreater(late, 50)

    def is_told(self, lines, number, value):
        line = lines[number % len(lines)]
        if line is None or value is None:
            return line is value
        return line[0] * number + line[1] == line[2] * value

    def test_far_crossings(self):
        # 12 y = 11 x - 12 or 11 y = 10 x + 12: both tell a y at 12, 144, 276, .., and are equal at 276.
        start, period, firsts, lines = straight(("or", (eq(12, (0, -11), (1, 12)), eq(-12, (0, -10), (1, 11)))))
        self.assertEqual((start, period), (145, 132))
        for x in range(500):
            want = first_true([12 * y == 11 * x - 12 or 11 * y == 10 * x + 12 for y in range(600)])
            if x < start:
                self.assertEqual(firsts[x], want)
            else:
                self.assertTrue(self.is_told(lines, x, want))

    def test_limits(self):
        for formula in (ge(12, (0, -12), (1, 12)), eq(-12, (1, 1)), mod(12, -12, (1, 12), )):
            straight(formula)
        for formula in (ge(13, (0, 1)), ge(0, (0, -13)), eq(0, (1, 13)), mod(13, 0, (0, 1)), mod(2, -13), mod(2, 0, (1, 13)),
                        ("not", ("and", (mod(13, 0),)))):
            refused(self, (TooGreat, 12), straight, formula)
        sixty = ("and", (mod(12, 0, (0, 1), (1, 1)), mod(5, 1, (1, 1))))
        self.assertEqual(straight(sixty)[1], 12)
        refused(self, (TooGreat, 60), straight, ("and", sixty[1] + (eq(0, (1, 1)),)))
        near = ("and", (mod(11, 0, (0, 1), (1, 1)), mod(5, 1, (1, 1)), eq(0, (0, 1), (1, -1)), eq(0, (0, 1), (1, -1))))
        straight(near)
        refused(self, (TooGreat, 60), straight, ("and", near[1] + (eq(0, (1, 1)),)))
        # 8 * 5 times 10, and 8 * 5 times 11; moduli without Y count, factors in mods do not.
        wide = (eq(1, (0, 1), (1, -8)), eq(2, (0, 3), (1, -5)))
        straight(("or", wide + (mod(10, 0, (0, 3)), mod(2, 0, (0, 1), (1, 1)))))
        refused(self, (TooGreat, 400), straight, ("or", wide + (mod(11, 0, (0, 3)),)))
        refused(self, (TooGreat, 400), straight, ("or", wide + (mod(5, 0, (0, 1), (1, 1)), mod(4, 0, (0, 1)), mod(3, 0, (0, 1)))))
        straight(("or", wide + (mod(10, 0, (0, 3), (1, 7)),)))
        straight(("and", (mod(8, 0, (0, 1)), mod(9, 0, (0, 1)), mod(5, 0, (0, 1)))))
        straight(("or", (eq(1, (0, 1), (1, -11)), ge(1, (0, 1), (1, -9)), mod(4, 0, (0, 1)))))
        straight(("or", (eq(1, (0, 1), (1, -11)), ge(1, (0, 1), (1, -12)), mod(3, 0, (0, 1)))))
        refused(self, (TooGreat, 400), straight, ("or", (eq(1, (0, 1), (1, -11)), ge(1, (0, 1), (1, -9)), mod(5, 0, (0, 1)))))
        # In this order.
        refused(self, (TooGreat, 12), straight, ("and", sixty[1] + (eq(0, (1, 1)), mod(13, 0, (0, 1)))))
        refused(self, (TooGreat, 60), straight, ("and", sixty[1] + wide))

    def test_wrong(self):
        refused(self, (BadFormula, ()), straight, None)
        refused(self, (BadFormula, (1,)), straight, ("not", 0))
        refused(self, (BadName, 2), straight, ("some", 1, ge(13, (2, 1))))
        refused(self, (NotPlain, (1,)), straight, ("not", ("some", 1, ge(13, (1, 1)))))
        refused(self, (TooGreat, 20), straight, nots(20, ge(0)))
        self.assertEqual(straight(nots(18, ge(0, (1, 1)))), (0, 1, (), ((0, 0, 1),)))


class Flaws(unittest.TestCase):
    def test_beside_trying(self):
        rand = make_rand(7601)
        kinds = {}
        for _ in range(500):
            many = rand.choice((2, 2, 3))
            formula = rand_formula(rand, rand.randint(1, 3), range(many), 4, 2)
            graph = rand.choice((rand_formula(rand, 2, range(many), 4, 2), least_choice(many, formula),
                                 greatest_choice(many, formula), ("and", (formula, rand_formula(rand, 1, range(many), 4, 2)))))
            try:
                found = flaw_of(many, formula, graph)
            except TooGreat:
                continue
            kinds[found[:1]] = kinds.get(found[:1], 0) + 1
            rows = list(product(range(6 if many == 2 else 4), repeat=many))
            holds = {row: (tried(formula, by_names(row)), tried(graph, by_names(row))) for row in rows}
            wrong = {"outside": [row for row in rows if holds[row] == (False, True)],
                     "two": [row[:-1] for row in rows if row[-1] == 0
                             and sum(holds[row[:-1] + (y,)][1] for y in range(rows[-1][-1] + 1)) > 1]}
            lacks = [row[:-1] for row in rows if row[-1] == 0 and any(
                tried(formula, by_names(row[:-1] + (y,))) for y in range(50)) and not any(
                tried(graph, by_names(row[:-1] + (y,))) for y in range(50))]
            if not found:
                self.assertFalse(wrong["outside"] or wrong["two"] or lacks)
            elif found[0] == "outside":
                if wrong["outside"] and max(found[1]) < 4:
                    self.assertEqual(found[1], min(wrong["outside"], key=lambda row: (max(row).bit_length(), row)))
                self.assertIs(tried(graph, by_names(found[1])), True)
                self.assertIs(tried(formula, by_names(found[1])), False)
            elif found[0] == "two":
                self.assertFalse(wrong["outside"])
                self.assertGreater(sum(tried(graph, by_names(found[1] + (y,))) for y in range(200)), 1)
            else:
                self.assertFalse(wrong["outside"] or wrong["two"])
                truths = [(tried(formula, by_names(found[1] + (y,))), tried(graph, by_names(found[1] + (y,))))
                          for y in range(200)]
                self.assertTrue(any(one for one, _ in truths) and not any(other for _, other in truths))
        self.assertEqual(set(kinds), {(), ("outside",), ("two",), ("lacks",)})
        self.assertGreater(min(kinds.values()), 15)

    def test_in_their_order(self):
        one = ("and", (ge(-5, (0, 1)), eq(0, (1, 1))))
        self.assertEqual(flaw_of(many=2, formula=ALWAYS, graph=eq(0, (1, 1))), ())
        self.assertEqual(flaw_of(2, ge(0, (0, -1)), eq(0, (1, 1))), ("outside", (1, 0)))
        self.assertEqual(flaw_of(2, ALWAYS, one), ("lacks", (0,)))
        self.assertEqual(flaw_of(2, ge(-2, (0, 1)), one), ("lacks", (2,)))
        self.assertEqual(flaw_of(2, ALWAYS, ("or", (one, ("and", (eq(-7, (0, 1)), eq(-3, (1, 1))))))), ("two", (7,)))
        self.assertEqual(flaw_of(2, ALWAYS, ("or", (eq(-3, (1, 1)), eq(-4, (1, 1))))), ("two", (0,)))
        self.assertEqual(flaw_of(2, ALWAYS, ("or", (eq(-90, (1, 1)), eq(0, (1, 1))))), ("two", (0,)))
        self.assertEqual(flaw_of(2, eq(-3, (1, 1)), ("or", (one, ("and", (eq(-7, (0, 1)), eq(-3, (1, 1))))))),
                         ("outside", (5, 0)))
        # Somes and alls are let in both, and bound names are not in the way.
        half = ("some", 2, ("and", (eq(0, (0, 1), (2, -2)), eq(0, (1, 1), (2, -1)))))
        self.assertEqual(flaw_of(2, ("some", 0, ge(0, (0, 1))), half), ("lacks", (1,)))
        self.assertEqual(flaw_of(2, ("some", 2, eq(0, (0, 1), (2, -2))), half), ())
        self.assertEqual(flaw_of(4, ("all", 0, ge(-1, (1, 1), (3, 1))), ("all", 4, eq(-1, (1, 1), (3, 1)))), ("lacks", (0, 2, 0)))

    def test_machines_of_flaws(self):
        rand = make_rand(7602)
        for _ in range(40):
            formula = rand_formula(rand, 2, (0, 1), 4, 2)
            for choice in (least_choice(2, formula), greatest_choice(2, formula)):
                self.assertNotEqual(flaw_of(2, formula, choice)[:1], ("two",))
                self.assertNotEqual(flaw_of(2, formula, choice)[:1], ("outside",))
            self.assertEqual(flaw_of(2, formula, least_choice(2, formula)), ())
            told = ("or", tuple(("and", (condition, eq(term[0], *term[1], (1, -divisor))))
                                for condition, (term, divisor) in pieces(2, formula)))
            self.assertEqual(machine_of(2, told), machine_of(2, least_choice(2, formula)))

    def test_errors_come_in_their_turn(self):
        # The pairs of 19 times 19 rests are too many, but there is a row outside.
        graph = mod(19, 0, (0, 1), (1, 2))
        self.assertEqual(flaw_of(2, NEVER, graph), ("outside", (0, 0)))
        refused(self, (TooGreat, 300), flaw_of, 2, ALWAYS, graph)
        refused(self, (TooGreat, 300), flaw_of, 2, mod(997, 0, (0, 1)), graph)
        refused(self, (TooGreat, 300), flaw_of, 2, ALWAYS, mod(997, 0, (0, 1)))
        # The last one asks for the formula with a some ahead.
        self.assertEqual(flaw_of(2, nots(17, NEVER), NEVER), ("lacks", (0,)))
        refused(self, (TooGreat, 20), flaw_of, 2, nots(18, ALWAYS), NEVER)
        self.assertEqual(flaw_of(2, nots(17, ALWAYS), nots(17, NEVER)), ("outside", (0, 0)))
        refused(self, (TooGreat, 20), flaw_of, 2, nots(19, NEVER), NEVER)

    def test_wrong(self):
        for many in STRANGE + (0, 1, 5):
            refused(self, (BadWidth, many), flaw_of, many, None, None)
        refused(self, (BadFormula, ()), flaw_of, 2, None, None)
        refused(self, (BadName, 2), flaw_of, 2, ge(0, (2, 1)), None)
        refused(self, (BadFormula, ()), flaw_of, 2, ALWAYS, None)
        refused(self, (BadName, 3), flaw_of, 3, ALWAYS, ge(0, (3, 1)))
        refused(self, (TooGreat, 20), flaw_of, 2, ALWAYS, nots(20, ALWAYS))


if __name__ == "__main__":
    unittest.main()
