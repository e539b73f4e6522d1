"""Points 77 to 80: houses, deeds, what a house tells."""

import unittest
from itertools import product

from tests.helpers import (
    ALWAYS, BILLION, NEVER, NUMBER, STRANGE, Touchy, by_names, eq, ge, make_rand, mod, nots, rand_formula, refused,
    refuses_strange, somes, tried)
from wholesay.asking import first_apart, first_row, is_within
from wholesay.errors import BadDeed, BadFormula, BadName, BadRow, BadWidth, NoRow, NothingBack, TooGreat, Unlike
from wholesay.formulas import put_in, trade_names
from wholesay.house import House
from wholesay.machines import all_rows, is_machine, least_machine, no_rows, takes
from wholesay.reading import machine_of

SUM = ge(-3, (0, 1), (1, 1))
NO_DEEDS = STRANGE + (
    Touchy(), (Touchy(),), ("and",), ("and", None), ("and", SUM, SUM), ("and", ge(0, (2, 1))), ["and", SUM], ("not", SUM),
    ("or",), ("or", 5), ("or", nots(20, ALWAYS)), ("or", Touchy()), ("some",), ("some", 2), ("some", -1), ("some", True),
    ("some", 0.0), ("some", Touchy()), ("some", 0, SUM), ("all", 2), ("all",), ("all", "0"), ("all", 0, 0), ("add", 0),
    ("add", 0, 1001), ("add", 0, -1), ("add", 2, 0), ("add", 0, True), ("add", 0, 1.0), ("add", 0, Touchy()),
    ("add", 0, 0, 0), ("add", None, 0), ("swap", 0, 0), ("swap", 0), ("swap", 0, 2), ("swap", 2, 0), ("swap", 0, -1), ("swap", -1, 0), ("swap", 0, True),
    ("swap", False, 1), ("swap", 0, 1, 1), ("swaps", 0, 1), ("nots",), ("not", 0))


def doc_behind(formula, deed):
    """The words of point 78."""
    kind = deed[0]
    if kind in ("and", "or"):
        return (kind, (formula, deed[1]))
    if kind == "not":
        return ("not", formula)
    if kind in ("some", "all"):
        return (kind, deed[1], formula)
    if kind == "swap":
        return trade_names(formula, deed[1], deed[2])
    less = (-deed[2], ((deed[1], 1),))
    return ("and", (("ge", less), put_in(formula, deed[1], less)))


def rand_deed(rand, many):
    kind = rand.choice(("and", "or", "not", "some", "all", "add") + (("swap", "swap") if many > 1 else ()))
    if kind in ("and", "or"):
        return (kind, rand_formula(rand, 2, range(many), 4, 2))
    if kind == "not":
        return (kind,)
    if kind == "add":
        return (kind, rand.randrange(many), rand.randint(0, 3))
    if kind == "swap":
        return (kind,) + tuple(rand.sample(range(many), 2))
    return (kind, rand.randrange(many))


def told(house):
    """All that a house shows of itself."""
    return (house.many, house.formula(), house.machine(), house.log(), len(house), list(house))


class Houses(unittest.TestCase):
    def test_new_houses(self):
        house = House(many=2, formula=SUM)
        self.assertEqual(told(house), (2, SUM, machine_of(2, SUM), (), 0, []))
        for many in STRANGE:
            refused(self, (BadWidth, many), House, many, None)
        refused(self, (BadFormula, ()), House, 2, None)
        refused(self, (BadName, 2), House, 2, ge(0, (2, 1)))
        refused(self, (TooGreat, 6), House, 1, somes(range(1, 7), ge(0, *((name, 1) for name in range(7)))))
        refused(self, (TooGreat, 300), House, 1, mod(997, 0, (0, 1)))

    def test_behind_each_deed(self):
        rand = make_rand(7801)
        refusals = 0
        for _ in range(60):
            many = rand.randint(1, 3)
            formula = rand_formula(rand, 2, range(many), 4, 2)
            house, log = House(many, formula), ()
            for _ in range(rand.randint(1, 7)):
                deed = rand_deed(rand, many)
                before = told(house)
                try:
                    self.assertIs(house.do(deed), None)
                except TooGreat:
                    refusals += 1
                    self.assertEqual(told(house), before)
                    continue
                formula, log = doc_behind(formula, deed), log + (deed,)
                machine = machine_of(many, formula)
                self.assertEqual(told(house), (many, formula, machine, log, len(log), list(log)))
                self.assertEqual(least_machine(machine), machine)
                self.assertIs(is_machine(house.machine()), True)
                self.same_rows(house, machine)

    def same_rows(self, house, machine):
        """What the house tells is what the machine tells."""
        for row in product(range(3), repeat=house.many):
            self.assertIs(house.has(row), takes(machine, row))
        self.assertIs(house.is_none(), machine == no_rows(house.many))
        self.assertIs(house.is_every(), machine == all_rows(house.many))
        if house.is_none():
            refused(self, (NoRow,), house.first)
        else:
            self.assertEqual(house.first(), first_row(machine))

    def test_rows_of_deeds(self):
        rand = make_rand(7802)
        for _ in range(40):
            formula = rand_formula(rand, 2, (0, 1), 4, 2)
            house = House(2, formula)
            rows = {row for row in product(range(30), repeat=2) if tried(formula, by_names(row))}
            small = list(product(range(8), repeat=2))
            for deed, fits in (
                    (("not",), lambda row: row not in rows), (("swap", 0, 1), lambda row: row[::-1] in rows),
                    (("swap", 1, 0), lambda row: row[::-1] in rows),
                    (("add", 0, 2), lambda row: (row[0] - 2, row[1]) in rows),
                    (("add", 1, 3), lambda row: (row[0], row[1] - 3) in rows),
                    (("some", 0), lambda row: any((at, row[1]) in rows for at in range(30))),
                    (("all", 1), lambda row: all((row[0], at) in rows for at in range(30))),
                    (("and", SUM), lambda row: row in rows and sum(row) >= 3),
                    (("or", SUM), lambda row: row in rows or sum(row) >= 3)):
                house.do(deed)
                for row in small:
                    self.assertIs(house.has(row), bool(fits(row)), (formula, deed, row))
                house.undo()
                self.assertEqual(told(house), (2, formula, machine_of(2, formula), (), 0, []))

    def test_deeds_that_leave_rows(self):
        rand = make_rand(8001)
        for _ in range(30):
            formula = rand_formula(rand, 2, (0, 1), 4, 2)
            house, other = House(2, formula), House(2, formula)
            house.follow((("not",), ("not",), ("swap", 0, 1), ("swap", 1, 0)))
            self.assertTrue(house == other)
            house.follow((("add", 1, 5), ("some", 1)))
            other.do(("some", 1))
            self.assertTrue(house == other)
            self.assertIs(house.apart(other), None)
            self.assertNotEqual(len(house), len(other))

    def test_great_rows(self):
        house = House(2, eq(0, (0, 1), (1, -1)))
        house.follow((("add", 0, 1000),) * 3)
        self.assertIs(house.has((NUMBER, NUMBER - 3000)), True)
        self.assertIs(house.has(row=(NUMBER, NUMBER - 2999)), False)
        self.assertEqual(house.first(), (3000, 0))

    def test_what_is_no_deed(self):
        house = House(2, SUM)
        one = House(1, ALWAYS)
        for deed in NO_DEEDS:
            refused(self, (BadDeed, 0), house.do, deed)
        for deed in (("swap", 0, 1), ("some", 1), ("add", 1, 0), ("and", ge(0, (1, 1)))):
            refused(self, (BadDeed, 0), one.do, deed)
            house.do(deed=deed)
        self.assertEqual(told(one)[3:], ((), 0, []))
        self.assertEqual(len(house), 4)

    def test_refused_deeds(self):
        house = House(2, nots(19, ge(BILLION - 5, (0, 1), (1, 1))))
        before = told(house)
        refused(self, (TooGreat, 10 ** 9), House(2, ge(-BILLION, (0, 1))).do, ("add", 0, 1))
        for deed in (("not",), ("and", ALWAYS), ("some", 0), ("add", 1, 6)):
            refused(self, (TooGreat, 20), house.do, deed)
        self.assertEqual(told(house), before)
        house.do(("swap", 0, 1))
        self.assertEqual(house.formula(), nots(19, ge(BILLION - 5, (0, 1), (1, 1))))
        wide = House(1, ("or", (ALWAYS,) * 1998))
        refused(self, (TooGreat, 2000), wide.do, ("and", ALWAYS))
        wide.do(("not",))
        refused(self, (TooGreat, 2000), wide.do, ("not",))
        pairs = House(2, mod(19, 0, (0, 1)))
        refused(self, (TooGreat, 300), pairs.do, ("and", mod(23, 0, (1, 1))))
        self.assertEqual(len(pairs), 0)

    def test_undo(self):
        house = House(1, ge(-3, (0, 1)))
        refused(self, (NothingBack,), house.undo)
        states = [told(house)]
        for deed in (("not",), ("add", 0, 7), ("or", mod(2, 0, (0, 1))), ("some", 0)):
            house.do(deed)
            states.append(told(house))
        for state in states[::-1]:
            self.assertEqual(told(house), state)
            if house.log():
                self.assertIs(house.undo(), None)
        refused(self, (NothingBack,), house.undo)


class Many(unittest.TestCase):
    def test_follow(self):
        rand = make_rand(7803)
        for _ in range(40):
            many = rand.randint(1, 2)
            formula = rand_formula(rand, 1, range(many), 4, 2)
            deeds = tuple(rand_deed(rand, many) for _ in range(rand.randint(0, 6)))
            house, other = House(many, formula), House(many, formula)
            count, machine = house.trial(deeds)
            self.assertEqual(told(house), told(other))
            for deed in deeds[:count]:
                other.do(deed)
            self.assertEqual(other.machine(), machine)
            if count == len(deeds):
                self.assertIs(house.follow(deeds), None)
                self.assertEqual(told(house), told(other))
            else:
                before = told(house)
                with self.assertRaises(TooGreat) as one:
                    house.follow(deeds)
                with self.assertRaises(TooGreat) as two:
                    other.do(deeds[count])
                self.assertEqual(one.exception.most, two.exception.most)
                self.assertEqual(told(house), before)

    def test_all_or_none(self):
        house = House(1, nots(17, ge(-3, (0, 1))))
        self.assertEqual(house.trial((("not",),) * 5), (2, house.machine()))
        self.assertEqual(house.trial(deeds=(("not",), ("not",), ("not",))), (2, house.machine()))
        refused(self, (TooGreat, 20), house.follow, (("not",),) * 3)
        self.assertEqual(len(house), 0)
        house.follow(deeds=(("not",),) * 2)
        self.assertEqual(house.log(), (("not",), ("not",)))
        self.assertEqual(house.trial(()), (0, house.machine()))
        self.assertEqual(house.trial((("not",),)), (0, house.machine()))

    def test_40_deeds(self):
        house = House(2, ge(-3, (0, 1)))
        self.assertEqual(house.trial((("swap", 0, 1),) * 40)[0], 40)
        for call in (house.follow, house.trial):
            refused(self, (BadDeed, 40), call, (("swap", 0, 1),) * 41)
            refused(self, (BadDeed, 40), call, (None,) * 41)
        house.follow((("swap", 0, 1),) * 40)
        self.assertEqual(len(house), 40)
        house.follow((("swap", 0, 1),) * 40)
        self.assertEqual(len(house), 80)

    def test_what_is_no_deed(self):
        house = House(2, nots(19, ALWAYS))
        for call in (house.follow, house.trial):
            for deeds in STRANGE + ([("not",)], Touchy()):
                if not isinstance(deeds, tuple):
                    refused(self, (BadDeed, 0), call, deeds)
            for deed in NO_DEEDS:
                # All are looked at ahead of the first one, which would be refused.
                refused(self, (BadDeed, 2), call, (("not",), ("not",), deed, None))
        self.assertEqual(len(house), 0)


class Two(unittest.TestCase):
    def test_questions(self):
        rand = make_rand(7901)
        seen = set()
        for _ in range(80):
            many = rand.randint(1, 2)
            one, other = rand_formula(rand, 2, range(many), 3, 2), rand_formula(rand, 2, range(many), 3, 2)
            if rand.random() < 0.3:
                other = nots(2, one) if rand.random() < 0.5 else ("or", (one, other))
            first, second = House(many, one), House(many, other)
            machines = machine_of(many, one), machine_of(many, other)
            seen.add((first.within(other=second), first == second))
            self.assertIs(first.within(second), is_within(*machines))
            self.assertIs(first == second, machines[0] == machines[1])
            self.assertIs(first != second, machines[0] != machines[1])
            if first == second:
                self.assertIs(first.apart(second), None)
            else:
                row = first.apart(other=second)
                self.assertEqual(row, first_apart(*machines))
                self.assertIsNot(first.has(row), second.has(row))
        self.assertEqual(seen, {(True, True), (True, False), (False, False)})

    def test_equal_houses(self):
        one, other = House(2, SUM), House(2, ("and", (SUM, SUM)))
        other.follow((("not",), ("not",)))
        self.assertTrue(one == other and not one != other)
        self.assertFalse(House(1, ALWAYS) == House(2, ALWAYS))
        for value in STRANGE:
            self.assertFalse(one == value)
        self.assertFalse(one == machine_of(2, SUM))
        self.assertFalse(House(1, NEVER) == ())

    def test_unlike(self):
        house = House(2, SUM)
        for call in (house.within, house.apart):
            for value in STRANGE + (Touchy(), SUM, House(1, ALWAYS), House(3, ALWAYS), House):
                refused(self, (Unlike, value), call, value)

    def test_many_pairs(self):
        # 15 times 13 states in each of both, more than 3,000 pairs of them.
        one = House(2, ("and", (mod(15, 0, (0, 1)), mod(13, 0, (1, 1)))))
        other = House(2, ("and", (mod(13, 0, (0, 1)), mod(15, 0, (1, 1)))))
        refused(self, (TooGreat, 3000), one.within, other)
        refused(self, (TooGreat, 3000), one.apart, other)
        self.assertFalse(one == other)
        self.assertIs(one.apart(one.copy()), None)

    def test_copies(self):
        house = House(2, SUM)
        house.follow((("add", 0, 2), ("not",)))
        other = house.copy()
        self.assertEqual(told(other), told(house))
        self.assertIsNot(other, house)
        other.undo()
        other.do(("some", 0))
        self.assertEqual(house.log(), (("add", 0, 2), ("not",)))
        self.assertEqual(other.log(), (("add", 0, 2), ("some", 0)))
        house.undo()
        house.undo()
        refused(self, (NothingBack,), house.undo)
        other.undo()
        self.assertEqual(other.log(), (("add", 0, 2),))
        self.assertEqual(house.formula(), SUM)
        house.many = 7
        self.assertEqual(other.many, 2)

    def test_nothing_is_shared(self):
        house = House(2, SUM)
        house.do(("not",))
        rows = list(house)
        rows.append(1)
        self.assertEqual(list(house), [("not",)])
        self.assertEqual([deed for deed in house], [("not",)])
        self.assertIsInstance(house.log(), tuple)
        going = iter(house)
        self.assertEqual(next(going), ("not",))

    def test_rows(self):
        house = House(2, SUM)
        refuses_strange(self, BadRow, house.has)
        for row in ((1,), (1, 2, 3), [1, 2], (1, True), (1, -1), (1, NUMBER + 1), (Touchy(), 1)):
            refused(self, (BadRow, row), house.has, row)


if __name__ == "__main__":
    unittest.main()
