"""Points 69 to 71: least rows, spans and greatest sums, of sets and of formulas, and answers judged over all rows."""

import unittest
from itertools import product

from tests.helpers import (
    ALWAYS, BILLION, NEVER, NUMBER, STRANGE, Touchy, by_names, eq, ge, make_rand, mod, nots, rand_formula, refused,
    somes, tried)
from tests.trying import plus, rand_set, slow_rows
from wholesay.best import (
    best_rows, greatest, greatest_of, is_greatest, is_least_rows, least_rows, least_rows_of, lowest_row, spans)
from wholesay.errors import BadFormula, BadName, BadParameter, BadSet, BadWidth, NoRow, NotPlain, TooGreat
from wholesay.lines import made_set, need_set
from wholesay.linework import has, ordered
from wholesay.turning import formula_of, set_of

EXAMPLE = ge(-1, (0, 2), (1, -3))
BAD_WEIGHTS = STRANGE + ((1,), (1, 1, 1), [1, 1], (1, True), (1, 1001), (-1001, 1), (1, 1.0), (Touchy(), 1))


def total(weights, row):
    return sum(a * b for a, b in zip(weights, row))


def is_beneath(row, other):
    return row != other and all(a <= b for a, b in zip(row, other))


def least_of(rows):
    return tuple(sorted(row for row in rows if not any(is_beneath(other, row) for other in rows)))


class Sets(unittest.TestCase):
    def some(self, seed, times=150):
        rand = make_rand(seed)
        for _ in range(times):
            many = rand.randint(1, 3)
            value = rand_set(rand, many, 3, 4, 2)
            weights = tuple(rand.randint(-3, 3) for _ in range(many))
            yield value, weights, slow_rows(value, 12)

    def test_least_rows(self):
        for value, _, rows in self.some(6901):
            self.assertEqual(least_rows(value), least_of(rows))
        self.assertEqual(least_rows(value=(2, ())), ())
        self.assertEqual(least_rows((2, (((1, 3), ()), ((2, 2), ((1, 0),)), ((2, 3), ()), ((5, 0), ())))),
                         ((1, 3), (2, 2), (5, 0)))
        self.assertEqual(least_rows((1, (((4,), ()), ((4,), ((2,),)), ((5,), ())))), ((4,),))
        self.assertEqual(least_rows((1, (((BILLION,), ((1,),)),))), ((BILLION,),))

    def test_lowest_row(self):
        for value, _, rows in self.some(6902):
            if rows:
                self.assertEqual(lowest_row(value), min(rows, key=lambda row: (sum(row), row)))
        self.assertEqual(lowest_row(value=(2, (((0, 5), ()), ((2, 2), ()), ((3, 1), ((1, 1),))))), (2, 2))
        refused(self, (NoRow,), lowest_row, (3, ()))

    def test_spans(self):
        for value, _, rows in self.some(6903):
            if rows:
                for place, (low, high) in enumerate(spans(value)):
                    numbers = [row[place] for row in rows]
                    self.assertEqual(low, min(numbers))
                    if high is None:
                        self.assertTrue(any(period[place] for _, periods in value[1] for period in periods))
                    else:
                        self.assertEqual(high, max(numbers))
        self.assertEqual(spans(value=(3, (((0, 7, 4), ()), ((1, 2, 3), ((0, 0, 2),))))), ((0, 1), (2, 7), (3, None)))
        refused(self, (NoRow,), spans, (3, ()))

    def test_greatest(self):
        kinds = set()
        for value, weights, rows in self.some(6904, 300):
            found = greatest(value, weights)
            kinds.add(found[0])
            if found[0] == "none":
                self.assertEqual((found, rows), (("none",), set()))
            elif found[0] == "endless":
                _, row, step = found
                line = next(line for line in value[1] if any(total(weights, p) > 0 for p in line[1]))
                self.assertEqual((row, step), (line[0], next(p for p in line[1] if total(weights, p) > 0)))
                self.assertTrue(all(plus(row, step, k) in rows for k in range(3)))
            else:
                most = max(total(weights, row) for row in rows)
                self.assertEqual(found, ("row", most, min(row for row in rows if total(weights, row) == most)))
        self.assertEqual(len(kinds), 3)
        self.assertEqual(greatest(value=(1, ()), weights=(1,)), ("none",))
        self.assertEqual(greatest((1, (((3,), ()), ((4,), ((1,), (2,))))), (1000,)), ("endless", (4,), (1,)))
        self.assertEqual(greatest((1, (((3,), ()), ((4,), ((1,), (2,))))), (-1000,)), ("row", -3000, (3,)))
        self.assertEqual(greatest((1, (((BILLION,), ()),)), (1000,)), ("row", 10 ** 12, (BILLION,)))

    def test_best_rows(self):
        for value, weights, rows in self.some(6905, 300):
            found = best_rows(value, weights)
            self.assertIs(need_set(found), found)
            told = greatest(value, weights)
            if told[0] != "row":
                self.assertEqual(found, (value[0], ()))
                continue
            self.assertEqual(slow_rows(found, 12), {row for row in rows if total(weights, row) == told[1]})
            self.assertEqual(found, made_set(value[0], tuple(
                (base, tuple(p for p in periods if total(weights, p) == 0)) for base, periods in value[1]
                if total(weights, base) == told[1])))
        self.assertEqual(best_rows(value=(2, (((0, 3), ((1, 1), (2, 1))), ((1, 4), ((1, 1),)))), weights=(-1, 1)),
                         (2, (((0, 3), ((1, 1),)), ((1, 4), ((1, 1),)))))
        # Lines that differed by what is left out are one.
        self.assertEqual(best_rows((1, (((3,), ()), ((3,), ((1,),)))), (-1,)), (1, (((3,), ()),)))

    def test_other_lines_for_the_same_rows(self):
        for value, weights, _ in self.some(6906, 80):
            other = ordered(value)
            self.assertEqual(least_rows(other), least_rows(value))
            if value[1]:
                self.assertEqual(spans(other), spans(value))
                self.assertEqual(lowest_row(other), lowest_row(value))
            if greatest(value, weights)[0] == "endless":
                self.assertEqual(greatest(other, weights)[0], "endless")
            else:
                self.assertEqual(greatest(other, weights), greatest(value, weights))

    def test_wrong(self):
        for value in STRANGE:
            for call, more in ((least_rows, ()), (lowest_row, ()), (spans, ()), (greatest, (None,)), (best_rows, (None,))):
                refused(self, (BadSet, 0), call, value, *more)
                refused(self, (BadSet, 2), call, (1, (((0,), ()), ((0,), ()))), *more)
                refused(self, (TooGreat, 400), call, (1, (0,) * 401), *more)
        for call in (greatest, best_rows):
            for weights in BAD_WEIGHTS:
                refused(self, (BadParameter, weights), call, (2, ()), weights)
            call((2, ()), (1000, -1000))


class Formulas(unittest.TestCase):
    def test_the_example(self):
        self.assertEqual(least_rows_of(2, EXAMPLE), ((1, 0),))
        self.assertEqual(greatest_of(2, EXAMPLE, (-2, 3)), ("row", -1, (2, 1)))
        self.assertEqual(greatest_of(many=2, formula=EXAMPLE, weights=(1, -1))[0], "endless")
        self.assertIs(is_least_rows(2, EXAMPLE, ((1, 0),)), True)
        self.assertIs(is_greatest(2, EXAMPLE, (-2, 3), ("row", -1, (2, 1))), True)
        self.assertIs(is_greatest(2, EXAMPLE, (1, -1), greatest_of(2, EXAMPLE, (1, -1))), True)

    def test_beside_sets_and_rows(self):
        rand = make_rand(7001)
        kinds = set()
        for _ in range(120):
            many = rand.randint(1, 3)
            formula = rand_formula(rand, 2, range(many), 5, 2)
            weights = tuple(rand.randint(-2, 2) for _ in range(many))
            value = set_of(many, formula)
            self.assertEqual(least_rows_of(many=many, formula=formula), least_rows(value))
            found = greatest_of(many, formula, weights)
            self.assertEqual(found, greatest(value, weights))
            kinds.add(found[0])
            rows = [row for row in product(range(9), repeat=many) if tried(formula, by_names(row))]
            near = [row for row in least_rows(value) if max(row) < 9]
            self.assertEqual(tuple(near), least_of(rows))
            try:
                self.assertIs(is_least_rows(many, formula, least_rows(value)), True)
                self.assertIs(is_greatest(many, formula, weights, found), True)
                self.bent(many, formula, weights, found, rows)
            except TooGreat:
                continue
        self.assertEqual(len(kinds), 3)

    def bent(self, many, formula, weights, found, rows):
        """Answers that are not right are told so."""
        for kind in ("none", "endless", "row"):
            if kind == "none":
                self.assertIs(is_greatest(many, formula, weights, (kind,)), found == (kind,))
            elif kind != found[0] and found != ("none",):
                other = (kind, total(weights, found[-1]), found[-1]) if kind == "row" else (kind, found[2], (1,) * many)
                self.assertIs(is_greatest(many, formula, weights, other), False)
        if found[0] == "row":
            _, most, row = found
            for other in ((most + 1, row), (most - 1, row)):
                self.assertIs(is_greatest(many, formula, weights, ("row",) + other), False)
            for each in rows[:8]:
                self.assertIs(is_greatest(many, formula, weights, ("row", total(weights, each), each)),
                              total(weights, each) == most)
        least = least_rows_of(many, formula)
        if least:
            self.assertIs(is_least_rows(many, formula, least[1:]), False)
            self.assertIs(is_least_rows(many, formula, least[:-1] + (plus(least[-1], (1,) * many),)), False)
            self.assertIs(is_least_rows(many, formula, least + least[-1:]), False)
            self.assertIs(is_least_rows(many, formula, least[::-1]), len(least) == 1)
            self.assertIs(is_least_rows(many, formula, least + (plus(least[-1], (1,) * many),)), False)

    def test_the_same_rows_by_other_formulas(self):
        rand = make_rand(7002)
        for _ in range(60):
            many = rand.randint(1, 2)
            value = rand_set(rand, many, 2, 4, 2)
            formula, weights = formula_of(value), tuple(rand.randint(-2, 2) for _ in range(many))
            self.assertEqual(least_rows_of(many, formula), least_rows(value))
            found = greatest_of(many, formula, weights)
            if found[0] != "endless":
                self.assertEqual(found, greatest(value, weights))

    def test_somes(self):
        # The even numbers from 6 on.
        formula = ("some", 1, ("and", (eq(0, (0, 1), (1, -2)), ge(-3, (1, 1)))))
        self.assertEqual(least_rows_of(1, formula), ((6,),))
        self.assertEqual(greatest_of(1, formula, (-1,)), ("row", -6, (6,)))
        refused(self, (NotPlain, ()), least_rows_of, 1, ("all", 1, ge(0, (1, 1))))
        refused(self, (NotPlain, ()), greatest_of, 1, ("all", 1, ge(0, (1, 1))), (1,))
        self.assertIs(is_least_rows(1, ("all", 1, ge(-3, (0, 1), (1, 1))), ((3,),)), True)
        self.assertIs(is_greatest(1, ("all", 1, ge(-3, (0, -1), (1, 9))), (1,), ("none",)), True)
        self.assertIs(is_greatest(1, ("all", 1, ge(3, (0, -1), (1, 9))), (1,), ("row", 3, (3,))), True)
        self.assertIs(is_greatest(1, ("some", 1, ge(3, (0, -1), (1, 9))), (1,), ("endless", (0,), (1,))), True)

    def test_wrong(self):
        for many in STRANGE:
            refused(self, (BadWidth, many), least_rows_of, many, None)
            refused(self, (BadWidth, many), greatest_of, many, None, None)
            refused(self, (BadWidth, many), is_greatest, many, None, None, None)
            refused(self, (BadWidth, many), is_least_rows, many, None, None)
        for call, more in ((least_rows_of, ()), (greatest_of, (None,)), (is_greatest, (None, None)), (is_least_rows, (None,))):
            refused(self, (BadFormula, ()), call, 1, None, *more)
            refused(self, (BadName, 1), call, 1, ge(0, (1, 1)), *more)
            refused(self, (TooGreat, 20), call, 1, nots(20, ALWAYS), *more)
        for weights in BAD_WEIGHTS:
            refused(self, (BadParameter, weights), greatest_of, 2, ("all", 0, EXAMPLE), weights)
            refused(self, (BadParameter, weights), is_greatest, 2, ge(-10 ** 9, (0, 400)), weights, None)
        refused(self, (TooGreat, 1000), least_rows_of, 1, mod(1001, 0, (0, 1)))
        refused(self, (TooGreat, 1000), greatest_of, 1, mod(1001, 0, (0, 1)), (1,))
        refused(self, (TooGreat, 300), is_greatest, 1, mod(997, 0, (0, 1)), (1,), None)
        refused(self, (TooGreat, 300), is_least_rows, 1, mod(997, 0, (0, 1)), None)


class Judged(unittest.TestCase):
    def test_sums(self):
        most = ge(100, (0, -1), (1, -1))
        self.assertIs(is_greatest(many=2, formula=most, weights=(1, 1), answer=("row", 100, (40, 60))), True)
        for answer in (("row", 100, (0, 100)), ("row", 100, (100, 0))):
            self.assertIs(is_greatest(2, most, (1, 1), answer), True)
        for answer in (("row", 99, (40, 59)), ("row", 100, (40, 61)), ("row", 101, (40, 61)), ("row", 100, (100,)),
                       ("row", 100, [40, 60]), ("row", 100.0, (40, 60)), ("row", "100", (40, 60)), ("row", 100),
                       ("row", 100, (40, 60), ()), ["row", 100, (40, 60)], ("rows", 100, (40, 60)), ("none",), ("some",),
                       ("endless", (0, 0), (1, 0)), ("endless", (0, 0), (0, 0)), ("row", Touchy(), (40, 60)),
                       ("row", 100, Touchy()), (Touchy(), 100, (40, 60)), (Touchy(),), Touchy(), ("endless", Touchy(), (1, 0)),
                       ("endless", (0, 0), Touchy()), ("row", 100, (Touchy(), 60)), ("row", True, (1, 0)), ()):
            self.assertIs(is_greatest(2, most, (1, 1), answer), False)
        for answer in STRANGE:
            self.assertIs(is_greatest(2, most, (1, 1), answer), False)
            self.assertIs(is_greatest(2, most, (1, 1), (answer,)), False)
            self.assertIs(is_greatest(2, most, (1, 1), ("row", answer, (40, 60))), False)
            self.assertIs(is_greatest(2, most, (1, 1), ("row", 100, answer)), False)
            self.assertIs(is_greatest(2, most, (1, 1), ("endless", answer, (1, 1))), False)
            self.assertIs(is_greatest(2, most, (1, 1), ("endless", (1, 1), answer)), False)
        self.assertIs(is_greatest(1, eq(-1, (0, 1)), (1,), ("row", True, (1,))), False)
        self.assertIs(is_greatest(1, NEVER, (1,), ("none",)), True)
        self.assertIs(is_greatest(1, NEVER, (1,), ("none", 0, 0)), False)
        self.assertIs(is_greatest(1, NEVER, (1,), ("row",)), False)

    def test_great_sums(self):
        at = eq(-10 ** 9, (0, 1))
        self.assertIs(is_greatest(1, ge(10 ** 9 - 1, (0, -1)), (1,), ("row", 10 ** 9 - 1, (10 ** 9 - 1,))), True)
        self.assertIs(is_greatest(1, ge(1 - 10 ** 9, (0, 1)), (-1,), ("row", 1 - 10 ** 9, (10 ** 9 - 1,))), True)
        refused(self, (TooGreat, 10 ** 9), is_greatest, 1, at, (1,), ("row", 10 ** 9, (10 ** 9,)))
        refused(self, (TooGreat, 10 ** 9), is_greatest, 1, at, (-1,), ("row", -10 ** 9, (10 ** 9,)))
        refused(self, (TooGreat, 10 ** 9), is_greatest, 1, ge(0, (0, 1)), (1000,), ("row", 10 ** 12, (10 ** 9,)))
        # No such row, no such sum: nothing is asked.
        self.assertIs(is_greatest(1, at, (1,), ("row", 10 ** 9 + 1, (10 ** 9 + 1,))), False)
        self.assertIs(is_greatest(1, at, (1,), ("row", 10 ** 9 + 1, (10 ** 9,))), False)
        self.assertIs(is_greatest(1, NEVER, (1,), ("row", 10 ** 9, (10 ** 9,))), False)
        self.assertIs(is_greatest(1, ge(0, (0, 1)), (0,), ("row", 0, (7,))), True)

    def test_endless(self):
        evens = mod(2, 0, (0, 1))
        for row, step, truth in (((4,), (2,), True), ((4,), (6,), True), ((4,), (3,), False), ((3,), (2,), False),
                                 ((4,), (0,), False), ((BILLION,), (BILLION,), True)):
            self.assertIs(is_greatest(1, evens, (1,), ("endless", row, step)), truth)
            self.assertIs(is_greatest(1, evens, (-1,), ("endless", row, step)), False)
        self.assertIs(is_greatest(1, evens, (1,), ("endless", (4,), (BILLION + 2,))), False)
        self.assertIs(is_greatest(1, evens, (1,), ("ending", (4,), (2,))), False)
        # The numbers of all places are put in at once, bound names in the way or not.
        line = ("and", (eq(-3, (0, 1), (1, -2)), ("some", 0, eq(-1, (0, -3), (1, 1)))))
        self.assertIs(is_greatest(2, line, (0, 1), ("endless", (5, 1), (6, 3))), True)
        self.assertIs(is_greatest(2, line, (0, 1), ("endless", (5, 1), (2, 1))), False)
        self.assertIs(is_greatest(3, eq(0, (0, 1), (1, 1), (2, -1)), (0, 0, 1), ("endless", (1, 2, 3), (4, 5, 9))), True)
        self.assertIs(is_greatest(3, eq(0, (0, 1), (1, 1), (2, -1)), (0, 0, 1), ("endless", (1, 2, 3), (4, 5, 8))), False)
        deep = ge(0, (0, 2), (1, 2))
        refused(self, (TooGreat, 10 ** 9), is_greatest, 2, deep, (1, 0), ("endless", (0, 0), (BILLION, 0)))
        self.assertIs(is_greatest(2, deep, (-1, 0), ("endless", (0, 0), (BILLION, 0))), False)
        full = somes(range(1, 9), ge(0, (0, 1)))
        self.assertIs(is_greatest(1, full, (1,), ("endless", (0,), (1,))), True)

    def test_errors_of_the_work(self):
        formula = nots(18, ge(9, (0, -1)))
        self.assertIs(is_greatest(1, formula, (1,), ("row", 9, (9,))), True)
        formula = nots(19, ge(-10, (0, 1)))
        refused(self, (TooGreat, 20), is_greatest, 1, formula, (1,), ("row", 9, (9,)))
        self.assertIs(is_greatest(1, formula, (1,), ("row", 8, (9,))), False)
        self.assertIs(is_greatest(1, formula, (1,), ("row", 10, (10,))), False)
        formula = nots(19, ge(8, (0, -1)))
        self.assertIs(is_least_rows(1, formula, ((8,),)), False)
        refused(self, (TooGreat, 20), is_least_rows, 1, formula, ((9,),))
        refused(self, (TooGreat, 20), is_least_rows, 1, formula, ())
        formula = nots(17, ge(8, (0, -1)))
        self.assertIs(is_least_rows(1, formula, ((9,),)), True)

    def test_least_rows(self):
        formula = ge(-3, (0, 1), (1, 1))
        rows = ((0, 3), (1, 2), (2, 1), (3, 0))
        self.assertIs(is_least_rows(many=2, formula=formula, rows=rows), True)
        for other in (rows[1:], rows[:3], rows[::-1], rows + ((4, 0),), list(rows), rows + rows[-1:], ((0, 4),) + rows[1:],
                      ((0, 2),) + rows[1:], (0,) + rows, rows + (None,), rows + ((3,),), rows + (Touchy(),), Touchy(),
                      (Touchy(),), ((0, 3.0),) + rows[1:], ((False, 3),) + rows[1:], rows + ((4, -1),), ()):
            self.assertIs(is_least_rows(2, formula, other), False)
        for other in STRANGE:
            self.assertIs(is_least_rows(2, formula, other), False)
            self.assertIs(is_least_rows(2, NEVER, other), other == ())
        self.assertIs(is_least_rows(4, ALWAYS, ((0, 0, 0, 0),)), True)

    def test_60_rows(self):
        for count in (59, 60, 61):
            formula = ge(1 - count, (0, 1), (1, 1))
            rows = tuple((at, count - 1 - at) for at in range(count))
            self.assertIs(is_least_rows(2, formula, rows), count <= 60)
            self.assertEqual(least_rows_of(2, formula), rows)

    def test_each_row_has_a_least_one(self):
        rand = make_rand(7101)
        for _ in range(40):
            formula = rand_formula(rand, 2, (0, 1), 4, 2)
            rows = least_rows_of(2, formula)
            for row in product(range(7), repeat=2):
                if tried(formula, by_names(row)):
                    self.assertTrue(row in rows or any(is_beneath(each, row) for each in rows))
            value = set_of(2, formula)
            for base, periods in value[1][:2]:
                far = base
                for period in periods:
                    far = plus(far, period, NUMBER // 10 ** 3)
                self.assertIs(has(value, far), True)
                self.assertTrue(far in rows or any(is_beneath(each, far) for each in rows))


if __name__ == "__main__":
    unittest.main()
