"""Points 63 and 65 to 67: programs of loops, their checks, rounds, and formulas that tell of all their runs."""

import unittest
from itertools import product

from tests.helpers import (
    ALWAYS, NEVER, NUMBER, STRANGE, Touchy, by_names, eq, ge, make_rand, mod, nots, rand_formula, refused, same_value,
    somes, tried)
from tests.running import DOWN, gone_round, one_round, rand_guard, rand_program, rand_step, slow_runs
from wholesay.asking import first_row
from wholesay.errors import BadFormula, BadName, BadProgram, BadWidth, NoRow, TooGreat
from wholesay.forms import negated, simplified
from wholesay.formulas import free_names, is_plain, need_formula, put_in, trade_names
from wholesay.loops import after, before, need_program, relation, round_of, rounds_formula, surely, unending
from wholesay.machines import takes
from wholesay.reading import machine_of

STAY = ("row", ())
UP = ("add", (1,))
FOREVER = ("loop", (((), (0,)),))
# 30 parts: the row, 29 in it.
FULL = ("row", (UP,) * 29)
CALLS = ((need_program, None), (round_of, "program"), (rounds_formula, "program"), (before, "formula"),
         (unending, "program"), (surely, "formula"), (relation, "program"), (after, "formula"))


def nested(levels, inner=UP):
    for _ in range(levels):
        inner = ("row", (inner,))
    return inner


def called(call, last, many, program, formula=ALWAYS):
    return call(many, program, formula) if last == "formula" else call(many, program)


class Passed(unittest.TestCase):
    def test_programs(self):
        wide = ge(10 ** 5, (0, -10 ** 5), (1, 10 ** 5))
        loop = ("loop", (((wide,) * 4, (100, -100)), ((), (0, 0)), ((eq(-10 ** 5),), (-100, 100))))
        for many, value in ((1, UP), (2, ("add", (-100, 100))), (2, loop), (1, STAY), (1, FULL), (1, nested(5)),
                            (1, ("one", (UP,))), (2, ("if", (wide,), loop, STAY)), (1, FOREVER), (1, DOWN)):
            self.assertIs(need_program(many, value), value)
        self.assertEqual(need_program(many=1, value=UP), UP)

    def test_widths(self):
        for call, last in CALLS:
            for many in STRANGE + (0, 3, 4):
                refused(self, (BadWidth, many), called, call, last, many, None, None)

    def test_refused_forms(self):
        good = ("loop", (((), (0, 0)),))
        some = (
            Touchy(), (Touchy(), (0, 0)), ("add",), ("add", (0, 0), ()), ["add", (0, 0)], ("add", (0,)), ("adds", (0, 0)),
            ("add", [0, 0]), ("add", (101, 0)), ("add", (0, -101)), ("add", (True, 0)), ("add", (0, 1.0)), ("add", 0),
            ("add", (Touchy(), 0)), ("loop", ()), ("loop", (((), (0, 0)),) * 4), ("loop", [((), (0, 0))]),
            ("loop", (((), (0,)),)), ("loop", (([], (0, 0)),)), ("loop", (((),),)), ("loop", (((), (0, 0), ()),)),
            ("loop", ([(), (0, 0)],)), ("loop", ((None, (0, 0)),)), ("loop", (((), (101, 0)),)), ("loop", good),
            ("if", (), good), ("if", (), good, good, good), ("if", None, good, good), ("if", [], good, good),
            ("row", good[1:] + ([],))[:1], ("row", [good]), ("row", None), ("row", (), ()), ("one", ()), ("one", None),
            ("one", [good]), ("row",), ("one",), 0, (0, 0))
        for call, last in CALLS:
            for value in STRANGE + some:
                refused(self, (BadProgram, ()), called, call, last, 2, value, None)

    def test_refused_guards(self):
        bad = (mod(2, 0), ("not", ge(0)), ALWAYS, NEVER, ge(0, (2, 1)), ge(10 ** 5 + 1), eq(-10 ** 5 - 1),
               ge(0, (0, 10 ** 5 + 1)), eq(0, (1, -10 ** 5 - 1)), ge(0, (0, 0)), ge(0, (1, 1), (0, 1)), ("ge",),
               ("ge", 0), ("ge", (0, ()), 0), ["ge", (0, ())], None, True, Touchy(), (Touchy(), (0, ())),
               ("gt", (0, ())), ("ge", (True, ())), ("some", 0, ge(0)))
        for atom in bad:
            for value in (("loop", (((), (0, 0)), ((atom,), (0, 0)))), ("if", (ge(0), atom), UP, UP)):
                refused(self, (BadProgram, ()), need_program, 2, value)
        refused(self, (BadProgram, ()), need_program, 1, ("if", (ge(0, (1, 1)),), UP, UP))
        refused(self, (BadProgram, ()), need_program, 1, ("loop", (((ge(0),) * 5, (0,)),)))
        refused(self, (BadProgram, ()), need_program, 1, ("if", (ge(0),) * 5, UP, UP))

    def test_paths(self):
        for call, last in CALLS:
            refused(self, (BadProgram, (1, 2)), called, call, last, 1, ("row", (UP, UP, None, 0)))
            refused(self, (BadProgram, (2,)), called, call, last, 1, ("if", (), None, None))
            refused(self, (BadProgram, (3,)), called, call, last, 1, ("if", (), UP, None))
            refused(self, (BadProgram, (1, 0, 2, 1, 1)), called, call, last, 1,
                    ("one", (("if", (), ("row", (UP, ("add", (0, 0)))), None), None)))
            refused(self, (BadProgram, ()), called, call, last, 1, ("if", (None,), None, None))

    def test_how_deep_and_how_many(self):
        for call, last in CALLS:
            refused(self, (TooGreat, 6), called, call, last, 1, nested(6))
            refused(self, (TooGreat, 6), called, call, last, 1, nested(6, None))
            refused(self, (TooGreat, 30), called, call, last, 1, ("row", (UP,) * 30))
            refused(self, (TooGreat, 30), called, call, last, 1, ("row", (UP,) * 29 + (None,)))
            refused(self, (BadProgram, (1, 28)), called, call, last, 1, ("row", (UP,) * 28 + (None,) * 5))
            # The walk tells what comes first.
            refused(self, (BadProgram, (1, 0)), called, call, last, 1, ("row", (None, nested(6))))
            refused(self, (TooGreat, 6), called, call, last, 1, ("row", (nested(5),) + (UP,) * 40))
            refused(self, (TooGreat, 30), called, call, last, 1, ("row", (UP,) * 10 ** 6))
        # The 31st one met would be the 7th on the way, too.
        tail = ("row", (("row", (("row", (("row", (("row", (UP,) * 26),)),)),)),))
        refused(self, (TooGreat, 6), need_program, 1, ("row", (tail,)))

    def test_loops_alone(self):
        for program in (UP, STAY, ("one", (DOWN,)), ("row", (DOWN,)), ("if", (), DOWN, DOWN)):
            refused(self, (BadProgram, ()), round_of, 1, program)
            refused(self, (BadProgram, ()), rounds_formula, 1, program)


class Rounds(unittest.TestCase):
    def test_round_of(self):
        self.assertEqual(round_of(1, DOWN), ((ge(-5, (0, 1)), ge(-3, (0, 1))), (-3,)))
        self.assertEqual(round_of(many=1, program=FOREVER), ((), (0,)))
        program = ("loop", (((ge(1, (0, 2), (1, -1)),), (3, -2)), ((eq(0, (1, 1)), ge(4)), (-5, -1)), ((), (-1, 9))))
        self.assertEqual(round_of(2, program), (
            (ge(1, (0, 2), (1, -1)), ge(-2, (1, 1)), eq(-2, (1, 1)), ge(4), ge(-2, (0, 1)), ge(-3, (1, 1)),
             ge(-3, (0, 1))), (-3, 6)))
        great = ge(10 ** 5, (0, -10 ** 5), (1, 10 ** 5))
        program = ("loop", (((), (-100, 100)), ((), (-100, 100)), ((great,), (0, 0))))
        self.assertEqual(round_of(2, program)[0][2], ge(10 ** 5 + 4 * 10 ** 7, (0, -10 ** 5), (1, 10 ** 5)))

    def test_a_round_is_possible_where_all_atoms_hold(self):
        rand = make_rand(6501)
        for _ in range(200):
            many = rand.randint(1, 2)
            pairs = tuple((rand_guard(rand, many), rand_step(rand, many)) for _ in range(rand.randint(1, 3)))
            atoms, step = round_of(many, ("loop", pairs))
            for row in product(range(7), repeat=many):
                more = one_round(pairs, row)
                self.assertIs(all(tried(atom, by_names(row)) for atom in atoms), more is not None)
                if more is not None:
                    self.assertEqual(more, tuple(a + b for a, b in zip(row, step)))

    def test_atoms_hold_side_by_side(self):
        rand = make_rand(6502)
        for _ in range(200):
            many = rand.randint(1, 2)
            pairs = tuple((rand_guard(rand, many), rand_step(rand, many)) for _ in range(2))
            atoms, step = round_of(many, ("loop", pairs))
            row = tuple(rand.randint(0, 30) for _ in range(many))
            for atom in atoms:
                truths = [tried(atom, by_names([a + k * b for a, b in zip(row, step)])) for k in range(80)]
                self.assertLessEqual(sum(a != b for a, b in zip([False] + truths, truths)), 2)

    def test_rounds_formula(self):
        rand = make_rand(6503)
        for _ in range(200):
            many = rand.randint(1, 2)
            pairs = tuple((rand_guard(rand, many), rand_step(rand, many)) for _ in range(rand.randint(1, 2)))
            formula = rounds_formula(many, ("loop", pairs))
            self.assertIs(need_formula(formula), formula)
            self.assertIs(is_plain(formula), True)
            self.assertLessEqual(max(free_names(formula), default=0), many)
            for row in product(range(6), repeat=many):
                rounds, _ = gone_round(pairs, row, 200)
                for number in range(10):
                    self.assertIs(tried(formula, by_names(row + (number,))), rounds == number)
        self.assertIs(tried(rounds_formula(many=1, program=DOWN), by_names((12, 3))), True)
        for number in (NUMBER, 4, 5):
            rounds = max(0, (number - 2) // 3) if number >= 5 else 0
            formula = rounds_formula(1, DOWN)
            for more in range(-2, 3):
                if rounds + more >= 0:
                    self.assertIs(tried(formula, by_names((number, rounds + more))), more == 0)
        self.assertFalse(any(tried(rounds_formula(1, FOREVER), by_names((at, k))) for at in range(4) for k in range(9)))
        widest = ("loop", ((tuple(ge(at, (0, 1), (1, -1)) for at in range(4)), (-1, -1)),) * 3)
        self.assertIs(tried(rounds_formula(2, widest), by_names((7, 5, 1))), True)


def plus(formula, step):
    for place, number in enumerate(step):
        if number:
            formula = put_in(formula, place, (number, ((place, 1),)))
    return formula


def plus_times(formula, step, more, name):
    for place, number in enumerate(step):
        if number:
            formula = put_in(formula, place, (more * number, ((place, 1), (name, number))))
    return formula


def doc_before(many, program, formula):
    """The words of point 66, once more."""
    kind = program[0]
    if kind == "add":
        low = tuple(("ge", (n, ((p, 1),))) for p, n in enumerate(program[1]) if n < 0)
        there = plus(formula, program[1])
        if not low:
            return simplified(there)
        return simplified(("or", (("and", (*low, there)), ("and", (("not", ("and", low)), formula)))))
    if kind == "if":
        one, other = doc_before(many, program[2], formula), doc_before(many, program[3], formula)
        return simplified(("or", (("and", (*program[1], one)), ("and", (("not", ("and", program[1])), other)))))
    if kind == "one":
        return simplified(("or", tuple(doc_before(many, part, formula) for part in program[1])))
    if kind == "row":
        for part in program[1][::-1]:
            formula = doc_before(many, part, formula)
        return formula
    atoms, step = round_of(many, program)
    rates = [sum(factor * step[name] for name, factor in atom[1][1]) for atom in atoms]
    steady = tuple(a for a, r in zip(atoms, rates) if (r >= 0 if a[0] == "ge" else r == 0))
    falling = tuple(a for a, r in zip(atoms, rates) if (r < 0 if a[0] == "ge" else r != 0))
    idle = ("and", (("not", ("and", atoms)), formula))
    if not falling:
        return simplified(idle)
    if any(a[0] == "eq" for a in falling):
        return simplified(("or", (idle, ("and", (*atoms, plus(formula, step))))))
    name = min(each for each in range(many, 10) if each not in free_names(formula))
    now = tuple(plus_times(a, step, 0, name) for a in falling)
    then = tuple(plus_times(a, step, 1, name) for a in falling)
    whole = ("and", (*steady, *now, ("not", ("and", then)), plus_times(formula, step, 1, name)))
    return simplified(("or", (idle, ("some", name, whole))))


def doc_unending(many, program):
    kind = program[0]
    if kind == "add":
        return NEVER
    if kind == "if":
        one, other = doc_unending(many, program[2]), doc_unending(many, program[3])
        return simplified(("or", (("and", (*program[1], one)), ("and", (("not", ("and", program[1])), other)))))
    if kind == "one":
        return simplified(("or", tuple(doc_unending(many, part) for part in program[1])))
    if kind == "row":
        formula = NEVER
        for part in program[1][::-1]:
            formula = simplified(("or", (doc_unending(many, part), doc_before(many, part, formula))))
        return formula
    atoms, step = round_of(many, program)
    rates = [sum(factor * step[name] for name, factor in atom[1][1]) for atom in atoms]
    if any(r < 0 if a[0] == "ge" else r != 0 for a, r in zip(atoms, rates)):
        return NEVER
    return simplified(("and", atoms))


def asked(rand, many):
    """A formula to ask for, sometimes with other free names, or bound ones that are in the way."""
    if rand.random() < 0.5:
        return rand_formula(rand, 2, range(many), 4, 2)
    return rand_formula(rand, 3, range(4), 4, 2, (0, 1, 2, 3))


class Built(unittest.TestCase):
    def test_adds(self):
        at = eq(-3, (0, 1))
        self.assertEqual(before(1, ("add", (2,)), at), eq(-1, (0, 1)))
        self.assertEqual(before(1, ("add", (0,)), ("and", (at, at))), at)
        self.assertEqual(before(many=1, program=("add", (-2,)), formula=at), ("or", (
            ("and", (ge(-2, (0, 1)), eq(-5, (0, 1)))), ("and", (("not", ge(-2, (0, 1))), at)))))
        self.assertEqual(before(2, ("add", (-1, 2)), ge(0, (0, 1), (1, -1))), ("or", (
            ("and", (ge(-1, (0, 1)), ge(-3, (0, 1), (1, -1)))),
            ("and", (("not", ge(-1, (0, 1))), ge(0, (0, 1), (1, -1)))))))
        # Another name stays, a bound one makes room.
        self.assertEqual(before(1, ("add", (2,)), eq(0, (0, 1), (1, -1))), eq(2, (0, 1), (1, -1)))
        self.assertEqual(before(1, ("add", (2,)), ("some", 0, eq(-7, (0, 1)))), ("some", 0, eq(-7, (0, 1))))

    def test_ifs_and_ones_and_rows(self):
        at = eq(-3, (0, 1))
        guard = (ge(-4, (0, 1)),)
        self.assertEqual(before(1, ("if", guard, ("add", (1,)), STAY), at), ("or", (
            ("and", (ge(-4, (0, 1)), eq(-2, (0, 1)))), ("and", (("not", ge(-4, (0, 1))), at)))))
        self.assertEqual(before(1, ("one", (("add", (1,)), ("add", (2,)), ("add", (1,)))), at),
                         ("or", (eq(-2, (0, 1)), eq(-1, (0, 1)))))
        self.assertEqual(before(1, ("row", (("add", (1,)), ("add", (2,)))), eq(-9, (0, 1))), eq(-6, (0, 1)))
        # Nothing is made simple where nothing is done.
        self.assertEqual(before(1, STAY, ("and", (at, at))), ("and", (at, at)))
        self.assertEqual(before(1, ("row", (STAY, STAY)), ("not", ("not", at))), ("not", ("not", at)))
        self.assertEqual(before(1, ("one", (STAY,)), ("not", ("not", at))), at)

    def test_loops(self):
        self.assertEqual(before(1, DOWN, eq(-3, (0, 1))), ("or", (
            ("and", (("not", ge(-5, (0, 1))), eq(-3, (0, 1)))),
            ("some", 1, ("and", (ge(-5, (0, 1), (1, -3)), ("not", ge(-8, (0, 1), (1, -3))),
                                 eq(-6, (0, 1), (1, -3))))))))
        self.assertEqual(before(1, FOREVER, eq(-3, (0, 1))), NEVER)
        self.assertEqual(before(1, ("loop", (((ge(-2, (0, 1)),), (1,)),)), eq(-3, (0, 1))),
                         ("and", (("not", ge(-2, (0, 1))), eq(-3, (0, 1)))))
        self.assertEqual(before(1, ("loop", (((eq(-2, (0, 1)),), (1,)),)), eq(-3, (0, 1))), ("or", (
            ("and", (("not", eq(-2, (0, 1))), eq(-3, (0, 1)))), eq(-2, (0, 1)))))
        # The names from N on that are free are not taken for the rounds.
        taken = before(1, DOWN, ("and", (eq(0, (0, 1), (1, -1)), eq(0, (0, 1), (2, -1)))))
        self.assertEqual(taken[1][1][1], 3)
        bound = before(1, DOWN, ("some", 1, eq(0, (0, 1), (1, -1))))
        self.assertEqual(bound[1][1][2][1][-1], ("some", 2, eq(-3, (0, 1), (1, -3), (2, -1))))

    def test_beside_the_words_of_the_document(self):
        rand = make_rand(6601)
        kinds = set()
        for _ in range(300):
            many = rand.randint(1, 2)
            program, formula = rand_program(rand, many, 4), asked(rand, many)
            kinds.add(program[0])
            self.assertTrue(same_value(before(many, program, formula), doc_before(many, program, formula)))
            self.assertTrue(same_value(unending(many, program), doc_unending(many, program)))
            want = ("and", (("not", doc_unending(many, program)), ("not", doc_before(many, program, negated(formula)))))
            self.assertEqual(surely(many, program, formula), simplified(want))
            equal = ("and", tuple(eq(0, (p, 1), (many + p, -1)) for p in range(many)))
            self.assertEqual(relation(many, program), doc_before(many, program, equal))
            plain = rand_formula(rand, 2, range(many), 4, 2)
            whole = ("and", (plain, relation(many, program)))
            for place in range(many):
                whole = trade_names(whole, place, many + place)
            whole = ("some", 1, whole) if many == 1 else ("some", 3, ("some", 2, whole))
            self.assertEqual(after(many, program, plain), simplified(whole))
        self.assertEqual(len(kinds), 5)

    def test_relations(self):
        self.assertEqual(relation(many=1, program=STAY), ("and", (eq(0, (0, 1), (1, -1)),)))
        self.assertEqual(relation(2, STAY), ("and", (eq(0, (0, 1), (2, -1)), eq(0, (1, 1), (3, -1)))))
        self.assertEqual(relation(1, ("add", (2,))), eq(2, (0, 1), (1, -1)))
        self.assertEqual(after(many=1, program=("add", (2,)), formula=ge(-3, (0, 1))),
                         ("some", 1, ("and", (ge(-3, (1, 1)), eq(-2, (0, 1), (1, -1))))))
        self.assertEqual(after(2, ("add", (0, 1)), ALWAYS), ("some", 3, ("some", 2, ("and", (
            eq(0, (0, 1), (2, -1)), eq(-1, (1, 1), (3, -1)))))))

    def test_unending(self):
        self.assertEqual(unending(1, UP), NEVER)
        self.assertEqual(unending(many=1, program=FOREVER), ALWAYS)
        self.assertEqual(unending(1, DOWN), NEVER)
        self.assertEqual(unending(1, STAY), NEVER)
        self.assertEqual(unending(1, ("loop", (((ge(-2, (0, 1)), eq(0)), (1,)),))), ge(-2, (0, 1)))
        self.assertEqual(unending(1, ("loop", (((eq(-2, (0, 1)),), (0,)),))), eq(-2, (0, 1)))
        self.assertEqual(unending(1, ("loop", (((eq(-2, (0, 1)),), (1,)),))), NEVER)
        self.assertEqual(unending(1, ("row", (UP, ("loop", (((eq(-2, (0, 1)),), (0,)),))))), eq(-1, (0, 1)))
        self.assertEqual(surely(many=1, program=UP, formula=ge(-2, (0, 1))), ("not", ge(0, (0, -1))))
        self.assertEqual(surely(1, FOREVER, ALWAYS), NEVER)


class Told(unittest.TestCase):
    """What holds at small rows is what runs gone step by step have."""

    def machines(self, seed, times):
        rand = make_rand(seed)
        made = 0
        for _ in range(times):
            many = rand.randint(1, 2)
            program, formula = rand_program(rand, many), rand_formula(rand, 2, range(many), 4, 2)
            found = {}
            try:
                for call in (before, surely, after):
                    found[call] = machine_of(many, call(many, program, formula))
                found[unending] = machine_of(many, unending(many, program))
                found[relation] = machine_of(2 * many, relation(many, program))
            except TooGreat:
                continue
            made += 1
            yield many, program, formula, found
        self.assertGreater(made, times // 2)

    def test_runs(self):
        ends = {True: 0, False: 0}
        for many, program, formula, found in self.machines(6602, 120):
            for row in product(range(5), repeat=many):
                lasts = [last for _, last, _ in slow_runs(program, row)]
                fits = [last is not None and tried(formula, by_names(last)) for last in lasts]
                ends[None not in lasts] += 1
                self.assertIs(takes(found[before], row), any(fits), (program, formula, row))
                self.assertIs(takes(found[unending], row), None in lasts, (program, row))
                self.assertIs(takes(found[surely], row), all(fits), (program, formula, row))
                for last in product(range(5), repeat=many):
                    self.assertIs(takes(found[relation], row + last), last in lasts)
                for last in lasts:
                    if last is not None and tried(formula, by_names(row)):
                        self.assertIs(takes(found[after], last), True)
        self.assertGreater(min(ends.values()), 100)

    def test_rows_behind_come_of_rows(self):
        for many, program, formula, found in self.machines(6603, 60):
            for last in product(range(4), repeat=many):
                there = ("and", (formula, relation(many, program)) + tuple(
                    eq(-number, (many + place, 1)) for place, number in enumerate(last)))
                try:
                    row = first_row(machine_of(2 * many, there))[:many]
                except NoRow:
                    self.assertIs(takes(found[after], last), False)
                else:
                    self.assertIs(takes(found[after], last), True)
                    self.assertIs(tried(formula, by_names(row)), True)
                    self.assertIn(last, [end for _, end, _ in slow_runs(program, row, 2000)])

    def test_great_rows(self):
        machine = machine_of(1, before(1, DOWN, eq(-3, (0, 1))))
        for number in (NUMBER, NUMBER - 1, NUMBER - 2):
            self.assertIs(takes(machine, (number,)), number % 3 == 0)


class Refused(unittest.TestCase):
    def test_formulas(self):
        for call in (before, surely, after):
            for value in STRANGE:
                refused(self, (BadFormula, ()), call, 1, UP, value)
            refused(self, (BadFormula, (1, 1)), call, 1, UP, ("and", (ge(0), None)))
            refused(self, (TooGreat, 20), call, 1, UP, nots(20, ge(0)))
            refused(self, (BadProgram, ()), call, 1, None, None)
        refused(self, (BadFormula, ()), before, 1, STAY, None)
        # So many loops are too deep, but the formula is looked at first.
        deep = ("row", (DOWN,) * 9 + (FOREVER,))
        refused(self, (TooGreat, 20), surely, 1, deep, ALWAYS)
        refused(self, (BadFormula, ()), surely, 1, deep, None)
        refused(self, (BadName, 1), after, 1, UP, ge(0, (1, 1)))
        refused(self, (BadName, 2), after, 2, ("add", (0, 0)), ge(0, (1, 1), (2, 1)))
        self.assertEqual(before(1, UP, ge(0, (9, -1))), ge(0, (9, -1)))

    def test_the_name_9(self):
        def asking(names):
            return ("and", tuple(eq(0, (0, 1), (name, -1)) for name in names))
        self.assertEqual(before(1, DOWN, asking(range(1, 9)))[1][1][1], 9)
        refused(self, (TooGreat, 10), before, 1, DOWN, asking(range(1, 10)))
        self.assertEqual(before(2, ("loop", (((), (-1, 0)),)), asking(range(2, 9)))[1][1][1], 9)
        refused(self, (TooGreat, 10), before, 2, ("loop", (((), (-1, 0)),)), asking(range(2, 10)))
        # No name is looked for where none is needed.
        before(1, ("loop", (((eq(-2, (0, 1)),), (1,)),)), asking(range(1, 10)))
        before(1, FOREVER, asking(range(1, 10)))

    def test_errors_of_the_work(self):
        great = ge(10 ** 9, (0, 1))
        refused(self, (TooGreat, 10 ** 9), before, 1, UP, great)
        refused(self, (TooGreat, 10 ** 9), surely, 1, UP, ge(-10 ** 9, (0, -10 ** 9)))
        refused(self, (TooGreat, 10 ** 9), before, 1, DOWN, ge(0, (0, 10 ** 9)))
        refused(self, (TooGreat, 20), before, 1, DOWN, somes((1,) * 17, ge(0, (0, 1), (1, 1))))
        refused(self, (TooGreat, 20), before, 1, ("add", (-1,)), nots(18, ge(0, (0, 1))))
        self.assertTrue(before(1, ("add", (1,)), nots(19, ge(0, (0, 1)))))
        wide = ("and", tuple(mod(1999, at, (0, 1), (1, 1)) for at in range(1500)))
        self.assertTrue(before(1, UP, wide))
        refused(self, (TooGreat, 2000), before, 1, ("add", (-1,)), wide)
        # The last one of a row comes first, in an if the first one.
        refused(self, (TooGreat, 2000), before, 1, ("row", (UP, ("add", (-1,)))), ("and", (great, wide)))
        refused(self, (TooGreat, 10 ** 9), before, 1, ("row", (("add", (-1,)), UP)), ("and", (great, wide)))
        refused(self, (TooGreat, 2000), before, 1, ("if", (), ("add", (-1,)), ("add", (2,))),
                ("and", (ge(10 ** 9 - 1, (0, 1)), wide)))
        refused(self, (TooGreat, 10 ** 9), before, 1, ("one", (("add", (2,)), ("add", (-1,)))),
                ("and", (ge(10 ** 9 - 1, (0, 1)), wide)))
        refused(self, (TooGreat, 2000), after, 1, UP, ("and", tuple(mod(1999, at, (0, 1)) for at in range(1998))))
        refused(self, (TooGreat, 20), after, 1, UP, nots(19, mod(2, 0, (0, 1))))


if __name__ == "__main__":
    unittest.main()
