"""Point 1 for all that there is, and facts that join functions of unlike modules."""

import unittest
from importlib import import_module
from itertools import product

from tests.helpers import ALWAYS, Touchy, by_names, eq, ge, make_rand, mod, rand_formula, same_value, somes, tried
from tests.playing import BOARD
from tests.running import DOWN, rand_program
from tests.test_grammars import NEST
from tests.test_interface import INTERFACE
from tests.trying import rand_set
from wholesay.asking import alike, first_apart, first_row, is_none, is_within
from wholesay.best import greatest_of, least_rows_of, lowest_row
from wholesay.boards import can_count
from wholesay.choices import flaw_of, greatest_choice, least_choice, pieces, straight
from wholesay.counting import count_at, endless
from wholesay.errors import NoRow, TooGreat
from wholesay.formulas import free_names, holds_at, put_in, trade_names
from wholesay.forms import inward, negated, simplified
from wholesay.house import House
from wholesay.linework import common, has, ordered, rearranged, times, union, widened
from wholesay.loops import after, before, relation, surely, unending
from wholesay.machines import both, either, less, takes, turned
from wholesay.places import number_at, placed, with_place, without
from wholesay.reach import back, pairs, reached
from wholesay.reading import machine_of
from wholesay.runs import ends_always, holds_always, programs_alike, run
from wholesay.sheet import Sheet
from wholesay.takeout import all_out, often_out, some_out
from wholesay.texts import formula_text, machine_text, read_formula, read_machine, read_set, set_text
from wholesay.truth import is_true, least_number, reply, truth_at
from wholesay.turning import formula_of, machine_of_set, set_apart, set_less, set_of, set_others, set_within
from wholesay.ways import fewest
from wholesay.wordcounts import counts_of, uses_for

FORMULA = ("or", (eq(0, (0, 1), (1, -2)), ge(-4, (1, 1))))
MACHINE = machine_of(2, FORMULA)
LINE = (2, (((1, 2), ((0, 1), (3, 1))),))
EQUATIONS = (2, (("ge", (2, -3), -1),))
NONE = (1, (("eq", (2,), -1),))
PAPERS = (((0,),), ())
# For each parameter a good value and the error that a bad one raises; None where values of any kind are judged.
WIDTH, NAME, ROW, PLACE = (2, "BadWidth"), (0, "BadName"), ((4, 2), "BadRow"), (1, "BadIndex")
PLAIN, WIDE, SETS, MACHINES = (FORMULA, "BadFormula"), (FORMULA, "BadFormula"), (LINE, "BadSet"), (MACHINE, "BadMachine")
TERM, EQUAL, GRAMMAR = ((1, ((0, 2),)), "BadTerm"), (EQUATIONS, "BadEquations"), (NEST, "BadGrammar")
BOARDS, MARKING, WIDTH1, PROGRAM = (BOARD, "BadBoard"), ((1, 0), "BadRow"), (1, "BadWidth"), (DOWN, "BadProgram")
CLAIM, WEIGHTS, ANY = (ge(-5, (0, 1)), "BadFormula"), ((1, -2), "BadParameter"), (None, None)
STEPS = ((0, 1, 0), "BadDeed")
CALLS = {
    "terms": {
        "need_many": (WIDTH,), "need_name": (NAME,), "need_row": (WIDTH, ROW), "need_numbers": (ROW,), "need_term": (TERM,),
        "make_term": ((3, "BadTerm"), (((1, 2), (0, 5)), "BadTerm")), "names_of": (TERM,), "value_at": (TERM, ROW),
        "add_terms": (TERM, TERM), "times_term": (TERM, (3, "BadParameter")), "put_into_term": (TERM, NAME, TERM)},
    "formulas": {
        "need_formula": (WIDE,), "need_plain": (PLAIN,), "need_wide": (WIDTH, WIDE), "is_plain": (WIDE,), "measures": (WIDE,),
        "parts_of": (WIDE,), "part_at": (WIDE, ((1, 0), "BadIndex")), "put_at": (WIDE, ((1, 0), "BadIndex"), WIDE),
        "free_names": (WIDE,), "holds_at": (PLAIN, ROW), "put_in": (WIDE, NAME, TERM), "trade_names": (WIDE, NAME, (1, "BadName")),
        "same_but_bound": (WIDE, WIDE)},
    "forms": {
        "is_inward": (WIDE,), "inward": (WIDE,), "negated": (WIDE,), "alternatives_of": (PLAIN,),
        "from_alternatives": (((FORMULA[1],), "BadParameter"),), "simplified": (WIDE,)},
    "takeout": {
        name: (PLAIN, NAME) for name in ("period_of", "work_of", "candidates_of", "some_out", "all_out", "often_out", "nearly_out")},
    "truth": {
        "looks": (WIDTH, WIDE, PLACE, ROW), "least_number": (WIDTH, WIDE, PLACE, ROW), "numbers_at": (WIDTH, WIDE, PLACE, ROW),
        "truth_at": (WIDTH, WIDE, ROW), "is_true": ((ALWAYS, "BadFormula"),),
        "reply": (WIDTH, (somes((5,), FORMULA), "BadFormula"), ROW, ((), "BadRow"))},
    "machines": {
        "need_machine": (MACHINES,), "columns_of": (WIDTH, ROW), "row_of": (WIDTH, ((1, 2), "BadIndex")),
        "takes": (MACHINES, ROW), "run_of": (MACHINES, ROW), "no_rows": (WIDTH,), "all_rows": (WIDTH,), "just": (WIDTH, ROW),
        "least_machine": (MACHINES,), "turned": (MACHINES,), "both": (MACHINES, MACHINES), "either": (MACHINES, MACHINES),
        "less": (MACHINES, MACHINES), "is_machine": (ANY,)},
    "places": {
        "placed": (WIDTH, MACHINES, ((1, 0), "BadIndex")), "with_place": (MACHINES, PLACE), "without": (MACHINES, PLACE),
        "number_at": (MACHINES, PLACE, ((4,), "BadRow"))},
    "asking": {
        "is_none": (MACHINES,), "first_row": (MACHINES,), "is_within": (MACHINES, MACHINES), "alike": (MACHINES, MACHINES),
        "first_apart": (MACHINES, (turned(MACHINE), "BadMachine")), "none_paper": ((both(MACHINE, turned(MACHINE)), "BadMachine"),),
        "is_none_paper": (MACHINES, ANY), "within_paper": (MACHINES, MACHINES), "is_within_paper": (MACHINES, MACHINES, ANY),
        "alike_paper": (MACHINES, MACHINES), "is_alike_paper": (MACHINES, MACHINES, ANY)},
    "reading": {"machine_of": (WIDTH, WIDE)},
    "lines": {
        "need_set": (SETS,), "made_set": (WIDTH, (LINE[1], "BadSet")), "turns": (SETS, ROW), "bars": (SETS, ROW),
        "is_bar": (SETS, (0, "BadIndex"), ROW, ANY)},
    "linework": {
        "has": (SETS, ROW), "ordered": (SETS,), "is_ordered": (SETS,), "union": (SETS, SETS), "sum_of": (SETS, SETS),
        "star": (SETS,), "times": (SETS, (3, "BadParameter")), "rearranged": (SETS, ((1, 0), "BadParameter")), "widened": (SETS,),
        "common": (SETS, SETS), "rows_to": (SETS, (9, "BadParameter"))},
    "equations": {
        "need_equations": (EQUAL,), "homogeneous": (EQUAL,), "solves": (EQUAL, ROW), "split": (EQUAL, ROW),
        "told_set": (WIDTH, EQUAL), "counter": (EQUAL, (("ge", (1, 0), -2), "BadEquations"))},
    "leasts": {"least": (EQUAL,), "ground": (EQUAL,)},
    "unsolved": {"unsolved_paper": ((NONE, "BadEquations"),), "is_unsolved_paper": (EQUAL, ANY)},
    "turning": {
        "set_of": (WIDTH, WIDE), "formula_of": (SETS,), "machine_of_set": (SETS,), "set_within": (SETS, SETS),
        "set_apart": (SETS, ((2, ()), "BadSet")), "set_others": (SETS,), "set_less": (SETS, SETS)},
    "counting": {
        "count_at": (MACHINES, (3, "BadParameter")), "count_below": (MACHINES, (3, "BadParameter")), "endless": (MACHINES,),
        "finite_part": (MACHINES,), "ways": (MACHINES,), "exactly": (MACHINES, (3, "BadParameter")),
        "counts_left": (MACHINES, (3, "BadParameter"), (1, "BadParameter"))},
    "basis": {
        "counts_alike": (MACHINES, MACHINES), "first_count_apart": (MACHINES, (turned(MACHINE), "BadMachine")),
        "count_paper": (MACHINES, MACHINES), "is_count_paper": (MACHINES, MACHINES, ANY)},
    "grammars": {
        "need_grammar": (GRAMMAR,), "word_of": (GRAMMAR, ((0, 1), "BadPaper")), "uses_in": (GRAMMAR, ((0, 1), "BadPaper")),
        "is_way": (GRAMMAR, ANY), "is_uses": (GRAMMAR, ANY), "letters_of": (GRAMMAR, ((2, 1), "BadPaper")),
        "way_with": (GRAMMAR, ((2, 1), "BadPaper"))},
    "trees": {"rounds": (GRAMMAR, ((0, 1), "BadPaper")), "flattened": (GRAMMAR, ((0, 1), "BadPaper"))},
    "wordcounts": {
        "counts_of": (GRAMMAR,), "uses_for": (GRAMMAR, ((3, 3), "BadRow")), "counts_apart": (GRAMMAR, GRAMMAR)},
    "boards": {
        "need_board": (BOARDS,), "done": (BOARDS, MARKING, (0, "BadIndex")), "walked": (BOARDS, MARKING, STEPS),
        "can_count": (BOARDS, MARKING, ((2, 1), "BadRow")), "order": (BOARDS, MARKING, ((2, 1), "BadRow")),
        "supports": (BOARDS, MARKING)},
    "reach": {"reached": (BOARDS, MARKING), "back": (BOARDS, MARKING), "pairs": (BOARDS,), "unbounded": (BOARDS, MARKING)},
    "ways": {
        "fewest": (BOARDS, MARKING, ((0, 3), "BadRow")), "way": (BOARDS, MARKING, ((0, 3), "BadRow")),
        "no_way_paper": (BOARDS, MARKING, ((0, 0), "BadRow")), "is_no_way_paper": (BOARDS, MARKING, ((0, 0), "BadRow"), ANY)},
    "loops": {
        "need_program": (WIDTH1, PROGRAM), "round_of": (WIDTH1, PROGRAM), "rounds_formula": (WIDTH1, PROGRAM),
        "before": (WIDTH1, PROGRAM, CLAIM), "unending": (WIDTH1, PROGRAM), "surely": (WIDTH1, PROGRAM, CLAIM),
        "relation": (WIDTH1, PROGRAM), "after": (WIDTH1, PROGRAM, CLAIM)},
    "runs": {
        "jump": (WIDTH1, PROGRAM, ((12,), "BadRow")), "run": (WIDTH1, PROGRAM, ((12,), "BadRow"), ((), "BadIndex")),
        "runs": (WIDTH1, PROGRAM, ((12,), "BadRow")), "ends_always": (WIDTH1, PROGRAM),
        "unending_row": (WIDTH1, (("loop", (((), (1,)),)), "BadProgram")), "holds_always": (WIDTH1, CLAIM, PROGRAM, CLAIM),
        "breach": (WIDTH1, CLAIM, PROGRAM, CLAIM), "is_breach": (WIDTH1, CLAIM, PROGRAM, CLAIM, ANY),
        "programs_alike": (WIDTH1, PROGRAM, PROGRAM),
        "programs_apart": (WIDTH1, PROGRAM, (("add", (1,)), "BadProgram"))},
    "best": {
        "least_rows": (SETS,), "lowest_row": (SETS,), "spans": (SETS,), "greatest": (SETS, WEIGHTS), "best_rows": (SETS, WEIGHTS),
        "least_rows_of": (WIDTH, WIDE), "greatest_of": (WIDTH, WIDE, WEIGHTS), "is_greatest": (WIDTH, WIDE, WEIGHTS, ANY),
        "is_least_rows": (WIDTH, WIDE, ANY)},
    "choices": {
        "least_choice": (WIDTH, PLAIN), "greatest_choice": (WIDTH, PLAIN), "pieces": (WIDTH, PLAIN), "straight": (PLAIN,),
        "flaw_of": (WIDTH, WIDE, WIDE)},
    "house": {"House": (WIDTH, WIDE)},
    "texts": {
        "formula_text": (WIDE,), "read_formula": (("0 >= 0", "BadText"),), "set_text": (SETS,),
        "read_set": (WIDTH, ("none", "BadText")), "machine_text": (MACHINES,), "read_machine": (WIDTH1, ("0 0 yes", "BadText")),
        "row_text": (ROW,), "read_row": (WIDTH, ("1 2", "BadText"))},
    "sheet": {"Sheet": ((("width 1\nset A is none\nsay A none"), "BadText"),)},
}


def all_calls():
    for module, calls in CALLS.items():
        for name, told in calls.items():
            yield getattr(import_module("wholesay." + module), name), told


class Point1(unittest.TestCase):
    def test_each_name_is_called_here(self):
        for module, lines in INTERFACE.items():
            missing = {line.split("(")[0] for line in lines} - set(CALLS[module]) - {"flat_out"}
            self.assertFalse(missing, module)

    def test_equal_calls_return_equal_values(self):
        for call, told in all_calls():
            good = [value for value, _ in told]
            one, other = call(*good), call(*good)
            self.assertTrue(one == other, call)
            if isinstance(one, (tuple, list, int)):
                self.assertTrue(same_value(one, other), call)
            if isinstance(one, list):
                one.clear()
                one.append(None)
                self.assertEqual(call(*good), other)

    def test_parameters_are_checked_in_their_order(self):
        for call, told in all_calls():
            for at, (_, kind) in enumerate(told):
                args = [value for value, _ in told[:at]] + [Touchy() for _ in told[at:]]
                if kind is None:
                    self.assertIs(call(*args), False)
                    continue
                with self.assertRaises(Exception) as caught:
                    call(*args)
                self.assertEqual(type(caught.exception).__name__, kind, (call, at))
                for value in vars(caught.exception).values():
                    self.assertTrue(value is args[at] or isinstance(value, (int, tuple, str)), (call, at))

    def test_what_houses_and_sheets_return(self):
        house = House(2, FORMULA)
        house.do(("not",))
        for call in (house.formula, house.machine, house.log, house.first, house.is_none, house.is_every):
            self.assertEqual(call(), call())
        self.assertEqual(house.trial((("not",),)), house.trial((("not",),)))


class Joined(unittest.TestCase):
    """What one module tells of rows is what another one tells."""

    def formulas(self, seed, times, deep=2, many=2):
        rand = make_rand(seed)
        for _ in range(times):
            yield rand, rand_formula(rand, deep, range(many), 4, 2)

    def test_truth(self):
        for _, formula in self.formulas(101, 60, 3):
            machine = machine_of(2, formula)
            for row in product(range(4), repeat=2):
                truth = tried(formula, by_names(row))
                self.assertIs(holds_at(formula, row), truth)
                self.assertIs(truth_at(2, formula, row), truth)
                self.assertIs(takes(machine, row), truth)
                self.assertIs(is_true(put_in(put_in(formula, 0, (row[0], ())), 1, (row[1], ()))), truth)
                self.assertIs(House(2, formula).has(row), truth)
            for same in (simplified(formula), inward(formula), ("not", negated(formula)), read_formula(formula_text(formula))):
                self.assertEqual(machine_of(2, same), machine)
            self.assertEqual(read_machine(2, machine_text(machine)), machine)

    def test_quantifiers(self):
        for _, formula in self.formulas(102, 40):
            machine = machine_of(2, formula)
            some = without(machine, 1)
            self.assertEqual(machine_of(1, some_out(formula, 1)), some)
            self.assertEqual(machine_of(1, ("some", 1, formula)), some)
            self.assertEqual(machine_of(1, all_out(formula, 1)), turned(without(turned(machine), 1)))
            self.assertEqual(machine_of(1, often_out(formula, 1)), endless(machine))
            self.assertEqual(machine_of(1, simplified(("some", 1, formula))), some)

    def test_least_numbers(self):
        for _, formula in self.formulas(103, 30):
            machine, choice = machine_of(2, formula), machine_of(2, least_choice(2, formula))
            start, period, firsts, lines = straight(formula)
            for x in range(8):
                found = []
                for call, args in ((least_number, (2, formula, 1, (x, 0))), (number_at, (machine, 1, (x,))),
                                   (number_at, (choice, 1, (x,))), (reply, (2, ("some", 1, formula), (x, 0), ()))):
                    try:
                        found.append(call(*args))
                    except NoRow:
                        found.append(None)
                line = lines[x % period]
                if x < start:
                    found.append(firsts[x])
                else:
                    found.append(None if line is None else (line[0] * x + line[1]) // line[2])
                told = [(term[0] + sum(factor * x for _, factor in term[1])) // divisor
                        for condition, (term, divisor) in pieces(2, formula) if holds_at(condition, (x,))]
                found.append(told[0] if told else None)
                self.assertEqual(len(set(found + told)), 1, (formula, x, found))
                self.assertEqual(count_at(choice, x), 0 if found[0] is None else 1)
            self.assertEqual(flaw_of(2, formula, least_choice(2, formula)), ())
            often = ("not", often_out(formula, 1))
            self.assertEqual(flaw_of(2, ("and", (formula, often)), greatest_choice(2, formula)), ())

    def test_sets_and_machines(self):
        rand = make_rand(104)
        for _ in range(50):
            one, other = rand_set(rand, 2, 2, 3, 2), rand_set(rand, 2, 2, 3, 2)
            first, second = machine_of_set(one), machine_of_set(other)
            try:
                rest = [(set_others(one), turned(first)), (set_less(one, other), less(first, second))]
                rest = [(value, machine) for value, machine in rest if ordered(value)]
            except TooGreat:
                rest = []
            for value, machine in (
                    *rest, (union(one, other), either(first, second)), (common(one, other), both(first, second)),
                    (ordered(one), first), (widened(one), with_place(first, 2)), (rearranged(one, (1, 0)), placed(2, first, (1, 0))),
                    (rearranged(one, (0,)), without(first, 1)), (set_of(2, formula_of(one)), first),
                    (read_set(2, set_text(one)), first)):
                self.assertEqual(machine_of_set(value), machine)
            self.assertIs(set_within(one, other), is_within(first, second))
            if alike(first, second):
                with self.assertRaises(NoRow):
                    set_apart(one, other)
            else:
                row = first_apart(first, second)
                self.assertEqual(set_apart(one, other), row)
                self.assertIsNot(has(one, row), has(other, row))
            self.assertEqual(machine_of_set(times(one, 1)), first)

    def test_best_rows_are_rows(self):
        for rand, formula in self.formulas(105, 40):
            value, machine = set_of(2, formula), machine_of(2, formula)
            self.assertEqual(machine_of_set(value), machine)
            self.assertTrue(all(takes(machine, row) for row in least_rows_of(2, formula)))
            self.assertIs(is_none(machine), least_rows_of(2, formula) == ())
            self.assertIs(is_none(machine), greatest_of(2, formula, (1, 1)) == ("none",))
            if not is_none(machine):
                self.assertEqual(sum(lowest_row(value)), min(sum(row) for row in least_rows_of(2, formula)))
                self.assertLessEqual(max(first_row(machine)).bit_length(), max(lowest_row(value)).bit_length())

    def test_deeds_of_houses(self):
        for rand, formula in self.formulas(106, 40):
            other = rand_formula(rand, 2, (0, 1), 4, 2)
            machine, more = machine_of(2, formula), machine_of(2, other)
            shifted = ("some", 2, ("and", (eq(-3, (0, 1), (2, -1)), put_in(formula, 0, (0, ((2, 1),))))))
            for deed, want in ((("not",), turned(machine)), (("and", other), both(machine, more)), (("or", other), either(machine, more)),
                               (("swap", 0, 1), placed(2, machine, (1, 0))), (("some", 0), with_place(without(machine, 0), 0)),
                               (("all", 1), with_place(turned(without(turned(machine), 1)), 1)),
                               (("add", 0, 3), machine_of(2, shifted))):
                house = House(2, formula)
                house.do(deed)
                self.assertEqual(house.machine(), want)
            sheet = Sheet("\n".join(("width 2", "formula A is " + formula_text(formula), "formula B is " + formula_text(other),
                                     "say A within B", "say A alike B", "say A none", "say B every")))
            one, two = House(2, formula), House(2, other)
            self.assertEqual([truth for _, truth in sheet], [one.within(two), one == two, one.is_none(), two.is_every()])

    def test_programs(self):
        rand = make_rand(107)
        made = 0
        for _ in range(60):
            program, formula = rand_program(rand, 1), rand_formula(rand, 2, (0,), 4, 2)
            try:
                there = machine_of(2, ("and", (relation(1, program), put_in(formula, 0, (0, ((1, 1),))))))
                self.assertEqual(machine_of(1, before(1, program, formula)), without(there, 1))
                there = machine_of(2, ("and", (relation(1, program), formula)))
                self.assertEqual(machine_of(1, after(1, program, formula)), without(there, 0))
                never = machine_of(1, unending(1, program))
                fails = machine_of(1, before(1, program, ("not", formula)))
                self.assertEqual(machine_of(1, surely(1, program, formula)), turned(either(never, fails)))
                self.assertIs(holds_always(1, formula, program, after(1, program, formula)), True)
                self.assertIs(holds_always(1, surely(1, program, formula), program, formula), True)
                self.assertIs(ends_always(1, program), is_none(never))
                self.assertIs(programs_alike(1, program, ("one", (program, program))), True)
            except TooGreat:
                continue
            made += 1
        self.assertGreater(made, 30)

    def test_boards_and_programs(self):
        # Tokens of one place taken one by one, two put in for each: a loop tells the same as a board.
        board = (2, ((0, (0, 2)),))
        loop = ("loop", (((), (-1, 2)),))
        some = ("one", (loop, ("row", ())))
        for row in product(range(4), repeat=2):
            last, rounds = run(2, loop, row)
            self.assertEqual(fewest(board, row, last), rounds)
            self.assertIs(has(reached(board, row), last), True)
            self.assertIs(has(back(board, last), row), True)
            self.assertIs(has(pairs(board), row + last), True)
            self.assertIs(can_count(board, row, (rounds[0] + 1,)), False)
        self.assertEqual(len(free_names(relation(2, some))), 4)

    def test_grammars_and_sets(self):
        twice = (2, ((0, (("letter", 0), ("letter", 0), ("variable", 0), ("letter", 1))), (0, ())))
        self.assertEqual(machine_of_set(counts_of(twice)), machine_of(2, eq(0, (0, 1), (1, -2))))
        self.assertEqual(uses_for(twice, (10 ** 50, 5 * 10 ** 49)), (5 * 10 ** 49, 1))
        self.assertEqual(machine_of(2, trade_names(formula_of(counts_of(twice)), 0, 1)), machine_of(2, eq(0, (0, -2), (1, 1))))

    def test_mods(self):
        house = House(1, mod(3, 0, (0, 1)))
        self.assertEqual(house.machine(), machine_of_set((1, (((0,), ((3,),)),))))


if __name__ == "__main__":
    unittest.main()
