"""The interface of DOC.md, as far as it has landed: names, parameters, and the files in which they are defined."""

import inspect
import unittest
from importlib import import_module

INTERFACE = {
    "terms": [
        "need_many(value)", "need_name(value)", "need_row(many, row)", "need_numbers(numbers)", "need_term(value)",
        "make_term(const, pairs=())", "names_of(term)", "value_at(term, numbers)", "add_terms(one, other)",
        "times_term(term, factor)", "put_into_term(term, name, other)"],
    "formulas": [
        "need_formula(value)", "need_plain(formula)", "need_wide(many, formula)", "is_plain(formula)",
        "measures(formula)", "parts_of(formula)", "part_at(formula, path)", "put_at(formula, path, part)",
        "free_names(formula)", "holds_at(formula, numbers)", "put_in(formula, name, term)",
        "trade_names(formula, one, other)", "same_but_bound(one, other)"],
    "forms": [
        "is_inward(formula)", "inward(formula)", "negated(formula)", "alternatives_of(formula)",
        "from_alternatives(rows)", "simplified(formula)"],
    "takeout": [
        "period_of(formula, name)", "work_of(formula, name)", "candidates_of(formula, name)",
        "some_out(formula, name)", "all_out(formula, name)", "often_out(formula, name)", "nearly_out(formula, name)",
        "flat_out(formula)"],
    "truth": [
        "looks(many, formula, place, row)", "least_number(many, formula, place, row)",
        "numbers_at(many, formula, place, row)", "truth_at(many, formula, row)", "is_true(formula)",
        "reply(many, formula, row, named)"],
    "machines": [
        "need_machine(value)", "is_machine(value)", "columns_of(many, row)", "row_of(many, columns)",
        "takes(machine, row)", "run_of(machine, row)", "no_rows(many)", "all_rows(many)", "just(many, row)",
        "least_machine(machine)", "turned(machine)", "both(first, second)", "either(first, second)",
        "less(first, second)"],
    "places": [
        "placed(many, machine, places)", "with_place(machine, place)", "without(machine, place)",
        "number_at(machine, place, row)"],
    "asking": [
        "is_none(machine)", "first_row(machine)", "is_within(first, second)", "alike(first, second)",
        "first_apart(first, second)", "none_paper(machine)", "is_none_paper(machine, paper)",
        "within_paper(first, second)", "is_within_paper(first, second, paper)", "alike_paper(first, second)",
        "is_alike_paper(first, second, paper)"],
    "reading": ["machine_of(many, formula)"],
    "lines": [
        "need_set(value)", "made_set(many, lines)", "turns(value, row)", "bars(value, row)",
        "is_bar(value, place, row, bar)"],
    "linework": [
        "has(value, row)", "ordered(value)", "is_ordered(value)", "union(one, other)", "sum_of(one, other)",
        "star(value)", "times(value, factor)", "rearranged(value, places)", "widened(value)", "common(one, other)",
        "rows_to(value, most)"],
    "equations": [
        "need_equations(value)", "homogeneous(equations)", "solves(equations, numbers)", "split(equations, numbers)",
        "told_set(many, equations)", "counter(equations, condition)"],
    "leasts": ["least(equations)", "ground(equations)"],
    "unsolved": ["unsolved_paper(equations)", "is_unsolved_paper(equations, paper)"],
    "turning": [
        "set_of(many, formula)", "formula_of(value)", "machine_of_set(value)", "set_within(one, other)",
        "set_apart(one, other)", "set_others(value)", "set_less(one, other)"],
    "counting": [
        "count_at(machine, n)", "count_below(machine, n)", "endless(machine)", "finite_part(machine)",
        "ways(machine)", "exactly(machine, how_many)", "counts_left(machine, modulus, rest)"],
    "basis": [
        "counts_alike(first, second)", "first_count_apart(first, second)", "count_paper(first, second)",
        "is_count_paper(first, second, paper)"],
    "grammars": [
        "need_grammar(value)", "word_of(grammar, way)", "uses_in(grammar, way)", "is_way(grammar, way)",
        "is_uses(grammar, uses)", "letters_of(grammar, uses)", "way_with(grammar, uses)"],
    "trees": ["rounds(grammar, way)", "flattened(grammar, way)"],
    "wordcounts": ["counts_of(grammar)", "uses_for(grammar, row)", "counts_apart(one, other)"],
    "boards": [
        "need_board(value)", "done(board, marking, deed)", "walked(board, marking, deeds)",
        "can_count(board, marking, counts)", "order(board, marking, counts)", "supports(board, marking)"],
    "reach": ["reached(board, marking)", "back(board, marking)", "pairs(board)", "unbounded(board, marking)"],
    "ways": [
        "fewest(board, first, last)", "way(board, first, last)", "no_way_paper(board, first, last)",
        "is_no_way_paper(board, first, last, paper)"],
    "loops": [
        "need_program(many, value)", "round_of(many, program)", "rounds_formula(many, program)",
        "before(many, program, formula)", "unending(many, program)", "surely(many, program, formula)",
        "relation(many, program)", "after(many, program, formula)"],
    "runs": [
        "jump(many, program, row)", "run(many, program, row, choices=())", "runs(many, program, row)",
        "ends_always(many, program)", "unending_row(many, program)", "holds_always(many, first, program, last)",
        "breach(many, first, program, last)", "is_breach(many, first, program, last, paper)",
        "programs_alike(many, one, other)", "programs_apart(many, one, other)"],
    "best": [
        "least_rows(value)", "lowest_row(value)", "spans(value)", "greatest(value, weights)",
        "best_rows(value, weights)", "least_rows_of(many, formula)", "greatest_of(many, formula, weights)",
        "is_greatest(many, formula, weights, answer)", "is_least_rows(many, formula, rows)"],
    "choices": [
        "least_choice(many, formula)", "greatest_choice(many, formula)", "pieces(many, formula)", "straight(formula)",
        "flaw_of(many, formula, graph)"],
    "house": ["House(many, formula)"],
    "texts": [
        "formula_text(formula)", "read_formula(text)", "set_text(value)", "read_set(many, text)",
        "machine_text(machine)", "read_machine(many, text)", "row_text(row)", "read_row(many, text)"],
    "sheet": ["Sheet(text)"],
}
METHODS = {
    "house.House": [
        "formula(self)", "machine(self)", "do(self, deed)", "follow(self, deeds)", "trial(self, deeds)", "undo(self)",
        "has(self, row)", "first(self)", "is_none(self)", "is_every(self)", "within(self, other)",
        "apart(self, other)", "log(self)", "copy(self)", "__len__(self)", "__iter__(self)", "__eq__(self, other)"],
    "sheet.Sheet": [
        "all_true(self)", "named(self, name)", "__len__(self)", "__iter__(self)", "__eq__(self, other)",
        "__str__(self)"],
}


class Interface(unittest.TestCase):
    def test_each_name_in_its_file_with_its_parameters(self):
        for module, lines in INTERFACE.items():
            found = import_module("wholesay." + module)
            for line in lines:
                call = getattr(found, line.split("(")[0])
                self.assertEqual(call.__name__ + str(inspect.signature(call)), line)
                self.assertEqual(call.__module__, "wholesay." + module)

    def test_each_method_in_its_class(self):
        for place, lines in METHODS.items():
            module, name = place.split(".")
            kind = getattr(import_module("wholesay." + module), name)
            for line in lines:
                call = vars(kind)[line.split("(")[0]]
                self.assertEqual(call.__name__ + str(inspect.signature(call)), line)

    def test_attributes_are_set_on_each_object(self):
        house = import_module("wholesay.house").House(1, ("and", ()))
        sheet = import_module("wholesay.sheet").Sheet("width 1")
        self.assertEqual((vars(house)["many"], vars(sheet)["many"], vars(sheet)["rows"]), (1, 1, ()))


if __name__ == "__main__":
    unittest.main()
