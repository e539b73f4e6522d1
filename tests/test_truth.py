"""Points 19, 20 and 21."""

import unittest

from tests.helpers import ALWAYS, BILLION, NEVER, NUMBER, STRANGE, by_names, eq, ge, make_rand, mod, quantified
from tests.helpers import rand_formula, refused, refuses_strange, same_value, somes, term_value, tried
from wholesay.errors import BadFormula, BadIndex, BadName, BadRow, BadWidth, NoRow, NotPlain, TooGreat
from wholesay.formulas import holds_at
from wholesay.machines import takes
from wholesay.places import number_at
from wholesay.reading import machine_of
from wholesay.takeout import candidates_of, period_of
from wholesay.truth import is_true, least_number, looks, numbers_at, reply, truth_at

FAR = 10 ** 400
EXAMPLE = ("and", (("eq", (0, ((0, 1), (1, -2)))), ("ge", (-3, ((1, 1),)))))
BESIDE = (looks, least_number, numbers_at)


def is_told(told, truths):
    """Whether (LISTED, START, PERIOD, RESIDUES) tells the truths of the numbers from 0 on."""
    listed, start, period, residues = told
    return all((at in listed if at < start else at % period in residues) == truth for at, truth in enumerate(truths))


def told_least(truths, most):
    """The least period up to `most`, and then the least start, with which the truths can be told."""
    sure = len(truths) - 3 * most
    for period in range(1, most + 1):
        if all(truths[at] == truths[at + period] for at in range(sure, len(truths) - period)):
            break
    start = sure
    while start > 0 and truths[start - 1] == truths[start - 1 + period]:
        start -= 1
    listed = tuple(at for at in range(start) if truths[at])
    residues = tuple(sorted(at % period for at in range(start, start + period) if truths[at]))
    return (listed, start, period, residues)


class AtRows(unittest.TestCase):
    def test_the_example(self):
        self.assertTrue(same_value(numbers_at(2, EXAMPLE, 1, (8, 0)), ((4,), 5, 1, ())))
        self.assertEqual(looks(many=2, formula=EXAMPLE, place=1, row=(8, 0)), (0, 3, 4, 5))
        self.assertEqual(least_number(many=2, formula=EXAMPLE, place=1, row=(8, 0)), 4)
        refused(self, (NoRow,), least_number, 2, EXAMPLE, 1, (4, 2))
        refused(self, (NoRow,), least_number, 2, EXAMPLE, 1, (9, 2))

    def test_looks(self):
        rand = make_rand(80)
        for _ in range(200):
            formula = rand_formula(rand, 3, range(3), 5, 2)
            row = tuple(rand.randint(0, rand.choice((9, NUMBER))) for _ in range(3))
            place = rand.randrange(3)
            try:
                found = candidates_of(formula, place)
            except TooGreat:
                continue
            values = [(term_value(term, row), divisor) for term, divisor in found]
            want = tuple(sorted({value // divisor for value, divisor in values if value >= 0 and value % divisor == 0}))
            self.assertTrue(same_value(looks(3, formula, place, row), want))

    def test_what_is_looked_at(self):
        # The number at the place does not matter; the others count as they are.
        formula = ge(-7, (0, 3), (1, -1))
        for own in (0, 5, NUMBER):
            self.assertEqual(looks(2, formula, 0, (own, 5)), (0, 4, 5))
        self.assertEqual(least_number(2, formula, 0, (1, NUMBER)), (NUMBER + 9) // 3)
        # Numbers above 10 ** 60 are told.
        self.assertEqual(least_number(2, eq(0, (0, 1), (1, -BILLION)), 0, (0, NUMBER)), BILLION * NUMBER)
        self.assertEqual(looks(1, mod(4, 1, (0, 1)), 0, (0,)), (0, 1, 2, 3))
        self.assertEqual(looks(2, ALWAYS, 1, (0, 0)), (0,))
        # The limits of taking out do not matter here.
        self.assertEqual(least_number(2, eq(0, (0, BILLION), (1, -BILLION)), 0, (0, 77)), 77)

    def test_how_many_candidates(self):
        self.assertEqual(least_number(1, ge(-5, (0, 1998)), 0, (0,)), 1)
        looks(1, ge(-5, (0, 1998)), 0, (0,))
        for call in (looks, least_number):
            refused(self, (TooGreat, 2000), call, 1, ge(-5, (0, 1999)), 0, (0,))
        kept = ("or", (mod(666, 3, (0, 1)), ge(-900, (0, -1)), ge(-5, (0, 1))))
        self.assertEqual(least_number(1, kept, 0, (0,)), 5)
        for call in (looks, least_number):
            refused(self, (TooGreat, 2000), call, 1, ("and", kept[1] + (eq(0, (0, 1)),)), 0, (0,))
            refused(self, (TooGreat, 2000), call, 2, mod(2001, 3, (0, 1)), 0, (0, 0))
            call(2, mod(2000, 1500, (0, 1)), 0, (0, 0))
        # C counts equal candidates each, and is above 2,000 ahead of there being none.
        refused(self, (TooGreat, 2000), least_number, 1, ("and", (eq(1, (0, 1)),) * 1000), 0, (0,))
        refused(self, (NoRow,), least_number, 1, ("and", (eq(1, (0, 1)),) * 999), 0, (0,))
        refused(self, (TooGreat, 2000), least_number, 1, ("and", (NEVER, ge(0, (0, BILLION)))), 0, (0,))

    def test_least_numbers(self):
        rand = make_rand(81)
        found = 0
        for _ in range(250):
            formula = rand_formula(rand, 4, range(3), 9, 3)
            place = rand.randrange(3)
            row = tuple(rand.randint(0, rand.choice((9, NUMBER))) for _ in range(3))
            others = row[:place] + row[place + 1:]
            try:
                have = least_number(3, formula, place, row)
            except NoRow:
                refused(self, (NoRow,), number_at, machine_of(3, formula), place, others)
                continue
            except TooGreat:
                continue
            found += 1
            self.assertEqual(have, number_at(machine_of(3, formula), place, others))
            self.assertIs(tried(formula, {**by_names(row), place: have}), True)
            for less in range(min(have, 300)):
                self.assertIs(tried(formula, {**by_names(row), place: less}), False)
        self.assertGreater(found, 100)


class AllNumbers(unittest.TestCase):
    def test_plain_cases(self):
        for formula, want in ((ALWAYS, ((), 0, 1, (0,))), (NEVER, ((), 0, 1, ())), (mod(4, 1, (0, 1)), ((), 0, 4, (3,))),
                              (mod(4, 0, (0, 2)), ((), 0, 2, (0,))), (ge(-3, (0, 1)), ((), 3, 1, (0,))),
                              (ge(3, (0, -1)), ((0, 1, 2, 3), 4, 1, ())), (eq(-5, (0, 1)), ((5,), 6, 1, ())),
                              (("not", eq(-5, (0, 1))), ((0, 1, 2, 3, 4), 6, 1, (0,))),
                              (("or", (mod(2, 0, (0, 1)), mod(2, 1, (0, 1)))), ((), 0, 1, (0,))),
                              (("or", (mod(6, 0, (0, 1)), mod(6, 3, (0, 1)))), ((), 0, 3, (0,))),
                              (("and", (mod(3, 1, (0, 1)), ge(-6, (0, 1)))), ((), 6, 3, (2,))),
                              (ge(-3, (1, 1)), ((), 0, 1, (0,))), (mod(2, 1, (1, 1)), ((), 0, 1, ()))):
            self.assertTrue(same_value(numbers_at(2, formula, 0, (9, 4)), want), formula)

    def test_least_starts(self):
        # 6 and on by the rule; 3, which fits it, is no start while 4 or 5 do not.
        formula = ("or", (("and", (mod(3, 0, (0, 1)), ge(-6, (0, 1)))), eq(-3, (0, 1))))
        self.assertEqual(numbers_at(1, formula, 0, (0,)), ((), 1, 3, (0,)))
        formula = ("or", (formula, eq(-4, (0, 1))))
        self.assertEqual(numbers_at(1, formula, 0, (0,)), ((3, 4), 5, 3, (0,)))

    def test_beside_trying(self):
        rand = make_rand(82)
        for _ in range(250):
            formula = rand_formula(rand, 4, range(2), 9, 3)
            place = rand.randrange(2)
            row = (rand.randint(0, 6), rand.randint(0, 6))
            truths = [tried(formula, {**by_names(row), place: number}) for number in range(120)]
            have = numbers_at(2, formula, place, row)
            self.assertTrue(is_told(have, truths))
            self.assertTrue(same_value(have, told_least(truths, 12)))
            if have[0] or have[3]:
                least = min(list(have[0]) + [have[1] + at for at in range(have[2]) if (have[1] + at) % have[2] in have[3]])
                self.assertEqual(least_number(2, formula, place, row), least)

    def test_limits(self):
        self.assertEqual(numbers_at(1, mod(1000, 1, (0, 1)), 0, (0,)), ((), 0, 1000, (999,)))
        refused(self, (TooGreat, 1000), numbers_at, 1, mod(1001, 1, (0, 1)), 0, (0,))
        refused(self, (TooGreat, 1000), numbers_at, 1, ("and", (mod(40, 1, (0, 1)), mod(77, 1, (0, 1)))), 0, (0,))
        # D counts, not what is told in the end, nor the moduli of other names.
        refused(self, (TooGreat, 1000), numbers_at, 1, ("and", (NEVER, mod(1001, 1, (0, 1)))), 0, (0,))
        self.assertEqual(numbers_at(2, mod(2000, 0, (0, 1000), (1, 1)), 0, (0, 0)), ((), 0, 2, (0,)))
        self.assertEqual(numbers_at(2, mod(10 ** 6, 0, (1, 1)), 0, (0, 0)), ((), 0, 1, (0,)))
        for kind in (ge, eq):
            for const in (-999, 999):
                numbers_at(1, kind(const, (0, 1)), 0, (0,))
                numbers_at(1, kind(2 * const, (0, 2)), 0, (0,))
            for const in (-1000, 1000):
                refused(self, (TooGreat, 1000), numbers_at, 1, kind(const, (0, 1)), 0, (0,))
                refused(self, (TooGreat, 1000), numbers_at, 1, kind(2 * const, (0, -2)), 0, (0,))
                refused(self, (TooGreat, 1000), numbers_at, 1, ("and", (NEVER, kind(const, (0, 1)))), 0, (0,))
            numbers_at(1, kind(1999, (0, 2)), 0, (0,))
            # V is the value of REST at the row; where the name does not stand nothing is great.
            numbers_at(2, kind(0, (0, 1), (1, -1)), 0, (NUMBER, 999))
            refused(self, (TooGreat, 1000), numbers_at, 2, kind(0, (0, 1), (1, -1)), 0, (0, 1000))
            numbers_at(2, kind(-BILLION, (1, 1)), 0, (0, NUMBER))
        self.assertEqual(numbers_at(1, ge(-999, (0, 1)), 0, (0,)), ((), 999, 1, (0,)))
        self.assertEqual(numbers_at(1, ge(999, (0, -1)), 0, (0,)), (tuple(range(1000)), 1000, 1, ()))
        # Of mods with the name only D is small or great.
        self.assertEqual(numbers_at(2, mod(3, 0, (0, 1), (1, 1)), 0, (0, NUMBER)), ((), 0, 3, (2,)))
        self.assertEqual(period_of(mod(3, 0, (0, 1), (1, 1)), 0), 3)


class WrongOnes(unittest.TestCase):
    def test_in_their_order(self):
        nested = ("not", ("some", 3, ge(0)))
        for call in BESIDE:
            refuses_strange(self, BadWidth, call, (), ("no formula", 9, 9))
            refused(self, (BadWidth, 5), call, 5, "no formula", 9, 9)
            for value in STRANGE:
                refused(self, (BadFormula, (1,)), call, 2, ("not", value), 9, 9)
            refused(self, (BadName, 2), call, 2, ("and", (nested, ge(0, (2, 1), (5, 1)))), 9, 9)
            refused(self, (NotPlain, (1, 0, 1)), call, 2, ("and", (nested, ("all", 1, ge(0)))), 9, 9)
            for place in (-1, 2, True, False, None, "0", 0.0):
                refused(self, (BadIndex, place), call, 2, EXAMPLE, place, "no row")
            refuses_strange(self, BadIndex, call, (2, EXAMPLE), ("no row",))
            for row in ((0,), (0, 0, 0), (0, NUMBER + 1), (NUMBER + 1, 0), (-1, 0), (True, 0), [0, 0], None):
                refused(self, (BadRow, row), call, 2, EXAMPLE, 1, row)
            refuses_strange(self, BadRow, call, (2, EXAMPLE, 0))
            # Ahead of what is too much.
            refused(self, (BadRow, 7), call, 1, ("and", (mod(10 ** 6, 1, (0, 1)), ge(0, (0, BILLION)))), 0, 7)


class Truth(unittest.TestCase):
    def test_at_rows(self):
        reached = ("some", 8, ("some", 9, eq(0, (0, 1), (8, -3), (9, -5))))
        self.assertEqual([x for x in range(20) if not truth_at(1, reached, (x,))], [1, 2, 4, 7])
        self.assertIs(truth_at(many=1, formula=reached, row=(NUMBER,)), True)
        self.assertIs(truth_at(2, ge(0, (0, 1), (1, -1)), (NUMBER - 1, NUMBER)), False)
        self.assertIs(truth_at(4, NEVER, (0, 0, 0, 0)), False)
        self.assertIs(truth_at(3, eq(0, (2, 1)), (1, 1, 0)), True)

    def test_beside_others(self):
        rand = make_rand(83)
        for _ in range(150):
            formula = rand_formula(rand, 3, range(3), 6, 3)
            row = tuple(rand.randint(0, rand.choice((9, NUMBER))) for _ in range(3))
            self.assertIs(truth_at(3, formula, row), holds_at(formula, row))
            name = rand.randrange(3)
            some, every = quantified(formula, name, by_names(row))[:2]
            deeper = rand_formula(rand, 4, range(3), 5, 2, (1, 2))
            for made, want in ((("some", name, formula), some), (("all", name, formula), every), (deeper, None)):
                try:
                    machine = machine_of(3, made)
                except TooGreat:
                    refused(self, (TooGreat, 300), truth_at, 3, made, row)
                    continue
                self.assertIs(truth_at(3, made, row), takes(machine, row) if want is None else want)

    def test_wrong_at_rows(self):
        refuses_strange(self, BadWidth, truth_at, (), (0, 0))
        for value in STRANGE:
            refused(self, (BadFormula, (2,)), truth_at, 2, ("some", 0, value), 0)
        refused(self, (BadName, 2), truth_at, 2, ge(0, (2, 1)), 0)
        refuses_strange(self, BadRow, truth_at, (2, ge(0, (1, 1))))
        wide = somes((4, 5, 6), ge(0, *((name, 1) for name in range(7))))
        refused(self, (BadRow, (0, 0, 0)), truth_at, 4, wide, (0, 0, 0))
        refused(self, (TooGreat, 6), truth_at, 4, wide, (0, 0, 0, 0))
        refused(self, (TooGreat, 6), truth_at, 4, ("and", (mod(999983, 1), wide)), (0, 0, 0, 0))
        # As machine_of raises it, even of a plain formula.
        refused(self, (TooGreat, 300), truth_at, 2, ge(0, (0, 140), (1, -161)), (0, 0))
        self.assertIs(truth_at(2, ge(0, (0, 140), (1, -160)), (8, 7)), True)

    def test_without_names(self):
        below = ge(-1, (0, -1), (1, 1))
        self.assertIs(is_true(("all", 0, ("some", 1, below))), True)
        self.assertIs(is_true(formula=("some", 1, ("all", 0, below))), False)
        self.assertIs(is_true(("all", 1, ("some", 0, below))), False)
        self.assertIs(is_true(ALWAYS), True)
        self.assertIs(is_true(ge(-1)), False)
        self.assertIs(is_true(("all", 9, ("or", (mod(2, 0, (9, 1)), mod(2, 1, (9, 1)))))), True)
        # 3 x + 5 y reach each number from 8 on, and not each from 7 on.
        for least, truth in ((8, True), (7, False)):
            reached = ("some", 8, ("some", 9, eq(0, (0, 1), (8, -3), (9, -5))))
            self.assertIs(is_true(("all", 0, ("or", (ge(least - 1, (0, -1)), reached)))), truth)
        rand = make_rand(84)
        for _ in range(200):
            formula = rand_formula(rand, 3, (0,), 9, 3)
            some, every = quantified(formula, 0, {})[:2]
            self.assertEqual([is_true(("some", 0, formula)), is_true(("all", 0, formula))], [some, every])

    def test_wrong_without_names(self):
        for value in STRANGE:
            refused(self, (BadFormula, (2,)), is_true, ("some", 0, value))
        refused(self, (BadName, 0), is_true, ("some", 5, ge(0, (0, 1), (3, 1), (5, 1))))
        refused(self, (BadName, 9), is_true, ("and", (("some", 8, ge(0, (8, 1))), ge(0, (9, 1)))))
        seven = somes(range(7), ge(0, *((name, 1) for name in range(7))))
        refused(self, (TooGreat, 6), is_true, seven)
        refused(self, (TooGreat, 6), is_true, ("and", (mod(999983, 1), seven)))
        self.assertIs(is_true(somes(range(6), ge(0, *((name, 1) for name in range(6))))), True)
        refused(self, (BadName, 9), is_true, ("and", (seven, ge(0, (9, 1)))))
        refused(self, (TooGreat, 300), is_true, somes((0, 1), ge(0, (0, 140), (1, -161))))
        self.assertIs(is_true(somes((0, 1), ge(0, (0, 140), (1, -160)))), True)


class Replies(unittest.TestCase):
    below = ge(-1, (0, -1), (1, 1))

    def test_replies(self):
        formula = ("all", 0, ("some", 1, self.below))
        self.assertEqual(reply(1, formula, (0,), (7,)), 8)
        self.assertEqual(reply(many=1, formula=formula, row=(0,), named=(FAR,)), FAR + 1)
        # It holds: no number of the first one makes the rest fail.
        refused(self, (NoRow,), reply, 1, formula, (0,), ())
        turned = ("some", 1, ("all", 0, self.below))
        refused(self, (NoRow,), reply, 1, turned, (0,), ())
        self.assertEqual(reply(1, turned, (0,), (5,)), 5)
        self.assertEqual(reply(1, turned, (0,), (0,)), 0)
        # Other names have the numbers of the row.
        self.assertEqual(reply(2, ("some", 5, eq(0, (0, 1), (1, 1), (5, -1))), (NUMBER, 4), ()), NUMBER + 4)
        refused(self, (NoRow,), reply, 2, ("some", 5, eq(0, (0, 1), (1, -1), (5, -2))), (NUMBER, 1), ())

    def test_inner_names(self):
        formula = ("some", 0, ("all", 0, ("some", 1, eq(0, (0, 1), (1, -1)))))
        self.assertEqual(reply(2, formula, (3, 4), (5, 6)), 6)
        # The next name itself takes the place of an outer one, and of the row.
        again = ("some", 0, ("some", 0, eq(-9, (0, 1))))
        self.assertEqual(reply(1, again, (3,), (5,)), 9)
        self.assertEqual(reply(1, again, (3,), ()), 0)
        # A name that is not free behind: any number does, or none.
        self.assertEqual(reply(1, ("some", 7, ge(-3, (0, 1))), (3,), ()), 0)
        refused(self, (NoRow,), reply, 1, ("some", 7, ge(-3, (0, 1))), (2,), ())
        self.assertEqual(reply(1, ("all", 7, ge(-3, (0, 1))), (2,), ()), 0)
        refused(self, (NoRow,), reply, 1, ("all", 7, ge(-3, (0, 1))), (3,), ())
        # The front ends where something else begins.
        short = ("some", 0, ("not", ("some", 1, self.below)))
        refused(self, (BadRow, (1,)), reply, 1, short, (0,), (1,))
        refused(self, (NoRow,), reply, 1, short, (0,), ())

    def test_beside_trying(self):
        rand = make_rand(85)
        told = 0
        for _ in range(250):
            behind = rand_formula(rand, 3, range(3), 6, 2)
            first, second = rand.randrange(3), rand.randrange(3)
            formula = (rand.choice(("some", "all")), first, (rand.choice(("some", "all")), second, behind))
            row = tuple(rand.randint(0, rand.choice((9, NUMBER))) for _ in range(3))
            number = rand.choice((rand.randint(0, 9), rand.randint(0, FAR)))
            numbers = {**by_names(row), first: number}
            kind = formula[2][0]
            try:
                have = reply(3, formula, row, (number,))
            except NoRow:
                some, every = quantified(behind, second, numbers)[:2]
                self.assertFalse(some if kind == "some" else not every)
                continue
            told += 1
            self.assertIs(tried(behind, {**numbers, second: have}), kind == "some")
            for less in range(min(have, 100)):
                self.assertIs(tried(behind, {**numbers, second: less}), kind != "some")
            if have > 100:
                self.assertIs(tried(behind, {**numbers, second: have - 1}), kind != "some")
        self.assertGreater(told, 100)

    def test_the_fact(self):
        rand = make_rand(86)
        for _ in range(120):
            names = [rand.randrange(4) for _ in range(3)]
            behind = rand_formula(rand, 3, range(4), 4, 2)
            formula = behind
            for name in names:
                formula = (rand.choice(("some", "all")), name, formula)
            row = (rand.randint(0, 9), rand.randint(0, NUMBER), 3, 4)
            try:
                holds = truth_at(4, formula, row)
                self.play(formula, behind, row, holds, rand)
            except TooGreat as error:
                self.assertEqual(error.most, 300)

    def play(self, formula, behind, row, holds, rand):
        """The winner of somes or alls always takes the reply; the other one names what it likes."""
        named = ()
        part = formula
        while part is not behind:
            if (part[0] == "some") is holds:
                named += (reply(4, formula, row, named),)
            else:
                named += (rand.choice((0, rand.randint(0, 9), rand.randint(0, FAR), FAR)),)
            part = part[2]
        numbers = by_names(row)
        part = formula
        for number in named:
            numbers[part[1]] = number
            part = part[2]
        self.assertIs(tried(behind, numbers), holds)

    def test_wrong_ones(self):
        formula = ("all", 0, ("some", 1, self.below))
        refuses_strange(self, BadWidth, reply, (), (0, 0, 0))
        for value in STRANGE:
            refused(self, (BadFormula, (2,)), reply, 2, ("some", 0, value), 0, 0)
        refused(self, (BadName, 2), reply, 2, ("some", 1, ge(0, (2, 1))), 0, 0)
        refuses_strange(self, BadRow, reply, (2, formula), ("no numbers",))
        for row in ((0, 0), (), (NUMBER + 1,), (True,), [0]):
            refused(self, (BadRow, row), reply, 1, formula, row, "no numbers")
        for named in ((0, 0), (0, 0, 0), (FAR + 1,), (-1,), (True,), (None,), ("0",), (1.0,), [0], [], 0, None):
            refused(self, (BadRow, named), reply, 1, formula, (0,), named)
        refuses_strange(self, BadRow, reply, (1, formula, (0,)), let=((), (1,)))
        for named in ((), (0,)):
            refused(self, (BadRow, named), reply, 1, self.below[:1] + ((0, ()),), (0,), named)
            refused(self, (BadRow, named), reply, 1, ("not", formula), (0,), named)

    def test_how_much(self):
        seven = somes((6, 5, 4), ge(-1, *((name, (-1) ** name) for name in range(7))))
        refused(self, (TooGreat, 6), reply, 4, seven, (0, 0, 0, 0), ())
        refused(self, (TooGreat, 6), reply, 4, seven, (0, 0, 0, 0), (1, 2))
        refused(self, (BadRow, (1, 2, 3)), reply, 4, seven, (0, 0, 0, 0), (1, 2, 3))
        six = somes((5, 4), ge(-1, *((name, (-1) ** name) for name in range(6))))
        refused(self, (NoRow,), reply, 4, six, (0, 9, 0, 0), (9,))
        self.assertEqual(reply(4, six, (0, 9, 0, 0), (10,)), 0)
        self.assertEqual(reply(4, six, (0, 9, 0, 0), ()), 10)
        refused(self, (TooGreat, 300), reply, 2, ("some", 2, ge(0, (0, 140), (1, -161))), (0, 0), ())
        self.assertEqual(reply(2, ("some", 0, ge(0, (0, 140), (1, -160))), (0, 7), ()), 8)
        # Only what stands behind is worked: that the whole is too much does not matter.
        formula = ("some", 2, ("or", (ge(-20, (0, -3), (2, 5)), eq(-10, (0, -5), (1, 3), (2, -2)))))
        refused(self, (TooGreat, 300), truth_at, 2, formula, (1, 1))
        self.assertEqual(reply(2, formula, (1, 1), ()), 5)
        refused(self, (TooGreat, 300), reply, 2, ("all", 3, formula), (1, 1), ())


if __name__ == "__main__":
    unittest.main()
