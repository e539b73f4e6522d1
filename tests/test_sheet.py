"""Point 83: sheets."""

import unittest

from tests.helpers import NUMBER, STRANGE, Touchy, eq, make_rand, rand_formula, refused
from tests.spelling import Formulas, changed, first_wrong, spaced
from tests.test_texts import NO_STRINGS, WORDS
from tests.trying import rand_set
from wholesay.asking import first_row, is_none, is_within
from wholesay.errors import BadName, BadSet, BadText, NoRow, SayError, TooGreat
from wholesay.formulas import need_wide
from wholesay.machines import all_rows, takes
from wholesay.reading import machine_of
from wholesay.sheet import Sheet
from wholesay.texts import formula_text, row_text, set_text
from wholesay.turning import formula_of, machine_of_set

EVENS = """width 2

formula EVEN is 0 + 1 x0 - 2 x1 = 0
  set   LINE is  ( 0 0 ) + ( 2 1 )
row R is 0 0
row S2 is 6 3
say EVEN alike LINE
deny EVEN none
say EVEN first R
deny LINE first S2
say LINE has S2
say EVEN every
"""


class Read(unittest.TestCase):
    def test_a_sheet(self):
        sheet = Sheet(text=EVENS)
        self.assertEqual(sheet.many, 2)
        self.assertEqual(sheet.rows, ((6, True), (7, True), (8, True), (9, True), (10, True), (11, False)))
        self.assertEqual(list(sheet), list(sheet.rows))
        self.assertEqual([row for row in sheet], list(sheet.rows))
        self.assertEqual(len(sheet), 6)
        self.assertIs(sheet.all_true(), False)
        self.assertIs(Sheet(EVENS[:-len("say EVEN every\n")]).all_true(), True)
        self.assertEqual(sheet.named("EVEN"), ("formula", eq(0, (0, 1), (1, -2))))
        self.assertEqual(sheet.named(name="LINE"), ("set", (2, (((0, 0), ((2, 1),)),))))
        self.assertEqual(sheet.named("S2"), ("row", (6, 3)))
        self.assertEqual(str(sheet), "\n".join(" ".join(line.split()) for line in EVENS.split("\n") if line))

    def test_equal_sheets(self):
        sheet = Sheet(EVENS)
        self.assertTrue(Sheet(str(sheet)) == sheet)
        self.assertEqual(str(Sheet(str(sheet))), str(sheet))
        self.assertEqual(Sheet(str(sheet)).rows[0], (5, True))
        self.assertFalse(Sheet(EVENS) != Sheet("\n\n" + EVENS.replace(" ", "  ")))
        self.assertFalse(sheet == Sheet("width 2"))
        self.assertTrue(sheet != Sheet(EVENS.replace("say EVEN every", "deny EVEN every")))
        for value in STRANGE + (str(sheet), EVENS, sheet.rows):
            self.assertFalse(sheet == value)
        # The numbers of lines may be unlike in equal sheets.
        self.assertTrue(Sheet("width 1\nset A is none\nsay A none") == Sheet("width 1\n\nset A is none\n\nsay A none"))

    def test_no_sayings(self):
        for text in ("width 3", "\n \nwidth 3\n\n", "width 3\nformula A is 997 divides 0 + 1 x0\nset B is none\nrow C is 1 2 3"):
            sheet = Sheet(text)
            self.assertEqual((sheet.many, sheet.rows, len(sheet), list(sheet), sheet.all_true()), (3, (), 0, [], True))
        # The machines are made if there is a saying, of whatever.
        refused(self, (TooGreat, 300), Sheet, "width 3\nformula A is 997 divides 0 + 1 x0\nset B is none\nsay B none")

    def test_nothing_is_shared(self):
        sheet = Sheet(EVENS)
        list(sheet).clear()
        self.assertEqual(len(sheet), 6)
        self.assertIsInstance(sheet.rows, tuple)

    def test_sayings(self):
        rand = make_rand(8301)
        seen = {}
        for _ in range(150):
            many = rand.randint(1, 2)
            formula, value = rand_formula(rand, 2, range(many), 4, 2), rand_set(rand, many, 2, 3, 2)
            if rand.random() < 0.3:
                formula = formula_of(value)
            one, other = machine_of(many, formula), machine_of_set(value)
            row = tuple(rand.randint(0, 4) for _ in range(many))
            try:
                first = first_row(one) if rand.random() < 0.5 else first_row(other)
            except NoRow:
                first = row
            truths = {"A has R": takes(one, row), "B has R": takes(other, row), "A none": is_none(one), "B none": is_none(other),
                      "A every": one == all_rows(many), "B every": other == all_rows(many), "A within B": is_within(one, other),
                      "B within A": is_within(other, one), "A alike B": one == other, "B alike B": True, "A within A": True,
                      "A first F": not is_none(one) and first_row(one) == first,
                      "B first F": not is_none(other) and first_row(other) == first}
            lines = ["width %d" % many, "formula A is " + formula_text(formula), "set B is " + set_text(value),
                     "row R is " + row_text(row), "row F is " + row_text(first)]
            want = []
            for saying, truth in truths.items():
                verb = rand.choice(("say", "deny"))
                lines.append(verb + " " + saying)
                want.append((len(lines) - 1, truth is (verb == "say")))
                seen[saying, truth] = seen.get((saying, truth), 0) + 1
            sheet = Sheet("\n".join(spaced(rand, line.split(" ")) for line in lines))
            self.assertEqual(sheet.rows, tuple(want))
            self.assertIs(sheet.all_true(), all(truth for _, truth in want))
            self.assertEqual(str(sheet), "\n".join(lines))
            self.assertTrue(Sheet(str(sheet)) == sheet)
            self.assertEqual(sheet.named("A"), ("formula", formula))
            self.assertEqual(sheet.named("B"), ("set", value))
        for saying, truth in seen:
            if saying not in ("B alike B", "A within A", "B every"):
                self.assertIn((saying, not truth), seen)

    def test_widths(self):
        for many in range(1, 5):
            self.assertEqual(Sheet("width %d\nrow R is %s" % (many, "7 " * many)).named("R"), ("row", (7,) * many))

    def test_great_rows(self):
        sheet = Sheet("width 1\nformula A is 2 divides 0 + 1 x0\nrow R is 1" + "0" * 60 + "\nsay A has R\nrow S is 1" + "0" * 59
                      + "\nsay A has S\ndeny A first S")
        self.assertIs(sheet.all_true(), True)
        self.assertEqual(sheet.named("R"), ("row", (NUMBER,)))

    def test_names(self):
        names = ["A", "Z", "A1", "AB", "B0Z9Q8XY", "A0000000", "ZZZZZZZZ", "SAY", "NONE", "HAS", "IS"]
        sheet = Sheet("width 1\n" + "\n".join("row %s is %d" % (name, at) for at, name in enumerate(names)))
        for at, name in enumerate(names):
            self.assertEqual(sheet.named(name), ("row", (at,)))
        for name in STRANGE + ("B", "a", "", "A ", Touchy(), ["A"], "width"):
            refused(self, (BadName, name), sheet.named, name)

    def test_names_of_formulas(self):
        for body in ("some x3 0 + 1 x0 - 2 x3 = 0", "some x0 0 + 1 x0 >= 0", "all x9 0 + 1 x1 + 1 x9 >= 0",
                     "and ( 0 + 1 x1 >= 0 ; some x2 0 + 1 x1 + 1 x2 >= 0 )"):
            need_wide(2, Sheet("width 2\nformula A is " + body).named("A")[1])
        for body, word in (("0 + 1 x2 >= 0", 6), ("0 + 1 x1 + 1 x2 >= 0", 9), ("and ( some x2 0 + 1 x2 >= 0 ; 0 + 1 x2 = 0 )", 17),
                           ("some x2 some x3 0 + 1 x2 + 1 x4 = 0", 13), ("0 + 1 x1 +", 8), ("0 + 1 x1 + 1", 9), ("0 - 1 x9", 6),
                           ("some x9 0 + 1 x9 +", 9), ("some x2 not 0 + 1 x3 >= 0", 9), ("3 divides 0 + 1 x2", 8)):
            refused(self, (BadText, 1, word), Sheet, "width 2\nformula A is " + body)


class Refused(unittest.TestCase):
    def test_no_text(self):
        for value in NO_STRINGS + ("", " ", "\n", " \n  \n", "\n" * 400):
            refused(self, (BadText, 0, 0), Sheet, value)

    def test_300_lines(self):
        head = "width 1\nset A is none\n"
        self.assertEqual(len(Sheet(head + "say A none\n" * 297 + "say A none")), 298)
        self.assertEqual(len(Sheet(head + "say A none\n" * 297)), 297)
        refused(self, (TooGreat, 300), Sheet, head + "say A none\n" * 298)
        refused(self, (TooGreat, 300), Sheet, head + "\n" * 299)
        refused(self, (TooGreat, 300), Sheet, "foo\n" * 300)
        self.assertEqual(Sheet("\n" * 299 + "width 1").many, 1)
        refused(self, (TooGreat, 300), Sheet, "\n" * 300 + "width 1")

    def test_words(self):
        head = "width 2\nformula F is 0 >= 0\nset S is none\nrow R is 0 0\n"
        for text, line, word in (
                ("width", 0, 1), ("width 0", 0, 1), ("width 5", 0, 1), ("width two", 0, 1), ("width 02", 0, 1), ("width 2 2", 0, 2),
                ("foo", 0, 0), ("\n\nfoo", 2, 0), ("formula A is 0 >= 0", 0, 0), ("Width 2", 0, 0), ("width -1", 0, 1), ("\n width", 1, 1),
                (head + "width 2", 4, 0), (head + "foo", 4, 0), (head + "formula", 4, 1), (head + "formula A", 4, 2),
                (head + "formula A is", 4, 3), (head + "formula A was 0 >= 0", 4, 2), (head + "formula a is 0 >= 0", 4, 1),
                (head + "formula 1 is 0 >= 0", 4, 1), (head + "formula AAAAAAAAA is 0 >= 0", 4, 1), (head + "formula A_ is 0 >= 0", 4, 1),
                (head + "formula Ab is 0 >= 0", 4, 1), (head + "formula \u00c4 is 0 >= 0", 4, 1), (head + "formula A\u0661 is 0 >= 0", 4, 1),
                (head + "formula F is 0 >= 0", 4, 1), (head + "set F is none", 4, 1), (head + "row S is 0 0", 4, 1), (head + "formula R is", 4, 1),
                (head + "formula A is 0 >= 1", 4, 5), (head + "formula A is 0 >= 0 0", 4, 6), (head + "formula A is x0", 4, 3),
                (head + "set A is", 4, 3), (head + "set A is ( 1 )", 4, 5), (head + "set A is none none", 4, 4), (head + "set A none", 4, 2),
                (head + "row A is 1", 4, 4), (head + "row A is 1 2 3", 4, 5), (head + "row A is 1 -2", 4, 4), (head + "row A is", 4, 3),
                (head + "row A is 1 1" + "0" * 59 + "1", 4, 4), (head + "say", 4, 1), (head + "say R none", 4, 1), (head + "say A none", 4, 1),
                (head + "say F", 4, 2), (head + "say F some", 4, 2), (head + "say F is none", 4, 2), (head + "say F none none", 4, 3),
                (head + "say F every R", 4, 3), (head + "say F has", 4, 3), (head + "say F has F", 4, 3), (head + "say F has S", 4, 3),
                (head + "say F has X", 4, 3), (head + "say F has R R", 4, 4), (head + "say F within", 4, 3), (head + "say F within R", 4, 3),
                (head + "deny F within S S", 4, 4), (head + "deny F alike R", 4, 3), (head + "deny S alike", 4, 3), (head + "deny S first S", 4, 3),
                (head + "deny S first", 4, 3), (head + "deny S first R S", 4, 4), (head + "Say F none", 4, 0), (head + "say F None", 4, 2),
                (head + "\n\nsay F none\nsay G none\nformula G is 0 >= 0", 7, 1), (head + "say T none\nfoo", 4, 1), (head + "\nfoo\nbar", 5, 0)):
            refused(self, (BadText, line, word), Sheet, text)

    def test_errors_of_reading(self):
        refused(self, (TooGreat, 20), Sheet, "width 1\nformula A is " + "not " * 20 + "0 >= foo")
        refused(self, (BadText, 1, 23), Sheet, "width 1\nformula A is " + "not " * 20 + "foo")
        refused(self, (TooGreat, 2000), Sheet, "width 1\nformula A is and ( " + "or ( ) ; " * 2001 + ")")
        refused(self, (BadSet, 1), Sheet, "width 1\nset A is ( 1 ) + ( 0 )\nfoo")
        refused(self, (BadText, 1, 9), Sheet, "width 1\nset A is ( 1 ) + ( 0")
        refused(self, (TooGreat, 400), Sheet, "width 1\nset A is " + " or ".join("( %d )" % at for at in range(401)) + "\nfoo")
        refused(self, (BadText, 1, 0), Sheet, "width 1\nfoo\nset A is ( 1 ) + ( 0 )")
        # Lines come ahead of machines, these in their order.
        hard = "width 1\nformula A is 997 divides 0 + 1 x0\nsay A none\n"
        refused(self, (BadText, 3, 0), Sheet, hard + "foo")
        refused(self, (TooGreat, 300), Sheet, hard)
        six = "formula B is " + "".join("some x%d " % at for at in range(1, 7)) + "0" + "".join(
            " + 1 x%d" % at for at in range(7)) + " >= 0\n"
        refused(self, (TooGreat, 300), Sheet, hard + six)
        refused(self, (TooGreat, 6), Sheet, "width 1\n" + six + hard[len("width 1\n"):])
        wild = "set C is ( 0 ) + ( 401 ) + ( 402 )\n"
        refused(self, (TooGreat, 400), Sheet, "width 1\n" + wild + hard[len("width 1\n"):])
        refused(self, (TooGreat, 300), Sheet, hard + wild)

    def test_errors_of_sayings(self):
        one = "and ( 15 divides 0 + 1 x0 ; 13 divides 0 + 1 x1 )"
        other = "and ( 13 divides 0 + 1 x0 ; 15 divides 0 + 1 x1 )"
        head = "width 2\nformula A is " + one + "\nformula B is " + other + "\n"
        refused(self, (TooGreat, 3000), Sheet, head + "say A within B")
        self.assertEqual(Sheet(head + "say A alike B\nsay A alike A\nsay A within A").rows, ((3, False), (4, True), (5, True)))

    def test_changed_sheets(self):
        rand = make_rand(8302)
        seen = {True: 0, False: 0}
        for _ in range(600):
            many = rand.randint(1, 3)
            formula = rand_formula(rand, 3, range(many), 5, 2, (0, 1, 2, 5))
            words = changed(rand, formula_text(formula).split(" "), WORDS[:-1])
            words = [word for word in words if "\n" not in word]
            want = first_wrong(words, Formulas(many))
            try:
                sheet = Sheet("width %d\n\nformula A is %s\n" % (many, " ".join(words)))
            except BadText as error:
                self.assertEqual((error.line, error.word), (2, 3 + want))
            else:
                self.assertIs(want, None)
                need_wide(many, sheet.named("A")[1])
                self.assertEqual(formula_text(sheet.named("A")[1]), " ".join(words))
            seen[want is None] += 1
        self.assertGreater(min(seen.values()), 30)

    def test_changed_lines(self):
        rand = make_rand(8303)
        lines = [" ".join(line.split()) for line in EVENS.split("\n") if line]
        told = 0
        for _ in range(500):
            at = rand.randrange(len(lines))
            words = changed(rand, lines[at].split(" "), ("width", "say", "deny", "none", "has", "EVEN", "R", "is", "0", "alike"))
            text = "\n".join(lines[:at] + [" ".join(words)] + lines[at + 1:])
            try:
                sheet = Sheet(text)
            except BadText as error:
                told += 1
                if error.line == at:
                    # The words up to the one that is refused can stand, if others come behind them.
                    self.assertLessEqual(error.word, len(words))
                else:
                    self.assertTrue(error.line > at or not words)
            except SayError as error:
                self.assertIsInstance(error, BadSet)
            else:
                self.assertTrue(Sheet(str(sheet)) == sheet)
        self.assertGreater(told, 200)


if __name__ == "__main__":
    unittest.main()
