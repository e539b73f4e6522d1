"""Points 81 and 82: texts of formulas, sets, machines and rows, and the first word that cannot stand."""

import unittest

from tests.helpers import ALWAYS, BILLION, NEVER, NUMBER, STRANGE, eq, ge, make_rand, mod, nots, rand_formula, refused, somes
from tests.slow import rand_machine
from tests.spelling import Formulas, changed, first_wrong, integer, spaced
from tests.trying import rand_set
from wholesay.errors import BadFormula, BadMachine, BadRow, BadSet, BadText, BadWidth, SayError, TooGreat
from wholesay.lines import need_set
from wholesay.machines import all_rows, need_machine
from wholesay.texts import (
    formula_text, machine_text, read_formula, read_machine, read_row, read_set, row_text, set_text)

WORDS = ("not", "some", "all", "and", "or", "(", ")", ";", "+", "-", ">=", "=", "0", "1", "7", "-3", "00", "-0", "x0", "x1",
         "x9", "x10", "divides", "1000001", "1000000", "2", "-1000000001", "1000000000", "1000000001", "x", "0\n", "none",
         "yes", "no", "1.0", "+1", "\u0663", "x\u0661", "1_0", "--1", "")
NO_STRINGS = tuple(value for value in STRANGE if not isinstance(value, str))


def told(call, *args):
    """What a reader raises, as the oracle tells it."""
    try:
        call(*args)
    except BadText as error:
        return error.line, error.word
    except TooGreat as error:
        return {20: "deep", 2000: "many"}[error.most]
    return None


class Written(unittest.TestCase):
    def test_formulas(self):
        for formula, text in (
                (ge(0), "0 >= 0"), (ge(-5, (0, 1), (9, -2)), "-5 + 1 x0 - 2 x9 >= 0"), (eq(7, (3, -1)), "7 - 1 x3 = 0"),
                (mod(3, 1, (0, 1)), "3 divides 1 + 1 x0"), (mod(2, 0), "2 divides 0"), (ALWAYS, "and ( )"),
                (NEVER, "or ( )"), (("not", ALWAYS), "not and ( )"), (("or", (ge(0),)), "or ( 0 >= 0 )"),
                (("and", (ge(1), NEVER, mod(9, -9))), "and ( 1 >= 0 ; or ( ) ; 9 divides -9 )"),
                (("some", 0, ("all", 9, eq(0, (0, 1)))), "some x0 all x9 0 + 1 x0 = 0"),
                (ge(BILLION, (1, -BILLION)), "1000000000 - 1000000000 x1 >= 0"),
                (mod(10 ** 6, -BILLION, (4, BILLION)), "1000000 divides -1000000000 + 1000000000 x4")):
            self.assertEqual(formula_text(formula=formula), text)
            self.assertEqual(read_formula(text=text), formula)

    def test_formulas_are_read_back(self):
        rand = make_rand(8101)
        for _ in range(400):
            formula = rand_formula(rand, rand.randint(1, 5), range(10), 40, 30, range(10))
            text = formula_text(formula)
            self.assertEqual(text, " ".join(text.split()))
            self.assertEqual(read_formula(text), formula)
            self.assertEqual(read_formula(spaced(rand, text.split(" "))), formula)
        widest = ("and", (ALWAYS,) * 1999)
        self.assertEqual(read_formula(formula_text(widest)), widest)
        self.assertEqual(read_formula(formula_text(nots(19, ge(0)))), nots(19, ge(0)))
        for deepest in (nots(19, NEVER), somes([at % 10 for at in range(19)], eq(0, (7, 1))), self.nested(19)):
            self.assertEqual(read_formula(formula_text(deepest)), deepest)

    def nested(self, levels):
        found = mod(2, 1)
        for _ in range(levels):
            found = ("or", (found, found)) if found[0] == "mod" else ("or", (found,))
        return found

    def test_sets(self):
        for value, text in (
                ((1, ()), "none"), ((2, (((1, 0), ()),)), "( 1 0 )"), ((1, (((0,), ((2,), (3,))),)), "( 0 ) + ( 2 ) + ( 3 )"),
                ((2, (((0, 0), ((1, 1),)), ((5, BILLION), ()))), "( 0 0 ) + ( 1 1 ) or ( 5 1000000000 )")):
            self.assertEqual(set_text(value=value), text)
            self.assertEqual(read_set(many=value[0], text=text), value)
        self.assertEqual(read_set(4, " none "), (4, ()))
        rand = make_rand(8102)
        for _ in range(200):
            value = rand_set(rand, rand.randint(1, 4))
            self.assertEqual(read_set(value[0], set_text(value)), value)
            self.assertEqual(read_set(value[0], spaced(rand, set_text(value).split(" "))), value)

    def test_machines(self):
        self.assertEqual(machine_text(machine=all_rows(1)), "0 0 yes")
        self.assertEqual(read_machine(many=1, text="0 0 yes"), all_rows(1))
        parity = (1, ((0, 1), (1, 0)), (False, True))
        self.assertEqual(machine_text(parity), "0 1 no ; 1 0 yes")
        rand = make_rand(8103)
        for _ in range(100):
            machine = rand_machine(rand, rand.randint(1, 4), rand.randint(1, 6))
            self.assertEqual(read_machine(machine[0], machine_text(machine)), machine)
            self.assertEqual(read_machine(machine[0], spaced(rand, machine_text(machine).split(" "))), machine)
        full = (1, ((0, 0),) * 600, (False,) * 600)
        self.assertEqual(read_machine(1, machine_text(full)), full)

    def test_rows(self):
        self.assertEqual(row_text(row=(0, 12, NUMBER)), "0 12 1" + "0" * 60)
        self.assertEqual(read_row(many=3, text=" 0  12 1" + "0" * 60 + " "), (0, 12, NUMBER))
        self.assertEqual(row_text((7,)), "7")
        for row in ((1,), (1, 2), (0, 0, 0), (1, 2, 3, NUMBER)):
            self.assertEqual(read_row(len(row), row_text(row)), row)

    def test_writers_refuse(self):
        for value in STRANGE:
            refused(self, (BadFormula, ()), formula_text, value)
            refused(self, (BadSet, 0), set_text, value)
            refused(self, (BadMachine, ()), machine_text, value)
        refused(self, (BadFormula, (1, 0)), formula_text, ("and", (5,)))
        refused(self, (TooGreat, 20), formula_text, nots(20, ge(0)))
        refused(self, (BadSet, 1), set_text, (1, (None,)))
        refused(self, (TooGreat, 400), set_text, (1, (0,) * 401))
        refused(self, (BadMachine, (0,)), machine_text, (5, (), ()))
        refused(self, (TooGreat, 600), machine_text, (1, ((0, 0),) * 601, (True,) * 601))
        for row in STRANGE + ([1], (1, 2, 3, 4, 5), (True,), (1, -1), (NUMBER + 1,), (1.0,)):
            if row != (1,):
                refused(self, (BadRow, row), row_text, row)


class FormulasRefused(unittest.TestCase):
    def test_words_that_cannot_stand(self):
        for text, word in (
                ("", 0), ("   ", 0), ("0", 1), ("0 >=", 2), ("0 >= 1", 2), ("0 >= 0 0", 3), ("0 = 0 )", 3), ("x0 >= 0", 0),
                ("+ 1 x0 >= 0", 0), ("0 + x0 >= 0", 2), ("0 + 1 >= 0", 3), ("0 + 0 x0 >= 0", 2), ("0 + -1 x0 >= 0", 2),
                ("0 + 1 x0 + 1 x0 >= 0", 6), ("0 + 1 x1 + 1 x0 >= 0", 6), ("0 + 1 x9 + 1 x9 >= 0", 4), ("0 - 1 x9 - ", 4),
                ("0 + 1 x8 + 1 x9 >= 0 ;", 9), ("0 > 0", 1), ("0 >= 00", 2), ("00 >= 0", 0), ("-0 >= 0", 0), ("+5 >= 0", 0),
                ("1000000001 >= 0", 0), ("-1000000001 >= 0", 0), ("1 divides 0", 1), ("0 divides 0", 1), ("-2 divides 0", 1),
                ("1000001 divides 0", 1), ("2 divides", 2), ("2 divides x0", 2), ("2 divides 0 >= 0", 3), ("2 divides 0 = 0", 3),
                ("2 divides 0 + 1", 5), ("2 + 1 x0 divides 0", 4), ("2 divides 2 divides 0", 3), ("not", 1), ("not )", 1),
                ("some 0 >= 0", 1), ("some x10 0 >= 0", 1), ("some x", 1), ("all x0", 2), ("all x0 x1", 2), ("and", 1),
                ("and 0 >= 0", 1), ("and (", 2), ("and ( ;", 2), ("and ( 0 >= 0", 5), ("and ( 0 >= 0 ;", 6),
                ("and ( 0 >= 0 ; )", 6), ("and ( 0 >= 0 ) )", 6), ("and ( 0 >= 0 0 >= 0 )", 5), ("and ( ) ( )", 3),
                ("or ( 2 divides 0 ; 3 divides 1 + 1 x0 ; )", 13), ("or()", 0), ("( 0 >= 0 )", 0), ("none", 0),
                ("0 >= 0\n", 2), ("0\t>= 0", 0), ("0 >=\u00a00", 1), ("\u0660 >= 0", 0), ("9" * 5000 + " >= 0", 0), ("0 >= -0", 2),
                ("0 + " + "1" * 5000 + " x0 >= 0", 2), ("NOT 0 >= 0", 0)):
            refused(self, (BadText, 0, word), read_formula, text)
        for value in NO_STRINGS:
            refused(self, (BadText, 0, 0), read_formula, value)

    def test_changed_texts(self):
        rand = make_rand(8201)
        seen = {True: 0, False: 0}
        for _ in range(4000):
            words = formula_text(rand_formula(rand, rand.randint(1, 4), range(10), 9, 3, range(10))).split(" ")
            for _ in range(rand.randint(1, 2)):
                words = changed(rand, words, WORDS[:-1])
            want = first_wrong(words, Formulas())
            self.assertEqual(told(read_formula, " ".join(words)), want if want is None else (0, want), words)
            seen[want is None] += 1
        self.assertGreater(min(seen.values()), 150)

    def test_what_is_read_is_written(self):
        rand = make_rand(8202)
        for _ in range(300):
            words = [rand.choice(WORDS[:16]) for _ in range(rand.randint(1, 5))]
            try:
                formula = read_formula(" ".join(words))
            except SayError:
                continue
            self.assertEqual(formula_text(formula), " ".join(words))

    def test_too_deep(self):
        refused(self, (TooGreat, 20), read_formula, "not " * 20 + "0 >= 0")
        for begin in ("0", "-7", "not", "some", "all", "and", "or", "1000000000"):
            refused(self, (TooGreat, 20), read_formula, "not " * 20 + begin)
        for word in ("x0", ")", "(", "00", "1000000001", "divides"):
            refused(self, (BadText, 0, 20), read_formula, "not " * 20 + word)
        refused(self, (BadText, 0, 20), read_formula, "not " * 20)
        refused(self, (BadText, 0, 4), read_formula, "not not some x0 foo " + "not " * 20 + "0")
        refused(self, (TooGreat, 20), read_formula, "some x0 " * 20 + "0 >= foo")
        refused(self, (BadText, 0, 21), read_formula, "not " * 19 + "0 >= 1")
        refused(self, (BadText, 0, 22), read_formula, "not " * 19 + "0 >= 0 0")
        refused(self, (TooGreat, 20), read_formula, "and ( " * 20 + "0 >= 0 " + ") " * 20)
        self.assertEqual(read_formula("and ( " * 20 + ") " * 20), self.nested(20))
        refused(self, (TooGreat, 20), read_formula, "or ( 0 >= 0 ; " + "not " * 19 + "and ( )")

    def nested(self, levels):
        found = ALWAYS
        for _ in range(levels - 1):
            found = ("and", (found,))
        return found

    def test_too_many(self):
        part = "; or ( ) "
        self.assertEqual(len(read_formula("and ( or ( ) " + part * 1998 + ")")[1]), 1999)
        for begin in ("or", "0", "not", "some", "-1000000000"):
            refused(self, (TooGreat, 2000), read_formula, "and ( or ( ) " + part * 1998 + "; " + begin)
        for word in ("", ")", "x0", "(", "1000000001"):
            refused(self, (BadText, 0, 5 + 4 * 1998 + 1), read_formula, "and ( or ( ) " + part * 1998 + "; " + word)
        refused(self, (TooGreat, 2000), read_formula, "and ( or ( ) " + part * 5000 + "foo")
        # The 2,001st one would be too deep, too.
        row = "and ( " * 19 + "or ( ) " + part * 1979
        refused(self, (TooGreat, 20), read_formula, row + "; not 0 >= 0")
        refused(self, (TooGreat, 2000), read_formula, row + "; or ( ) ; or ( )")


class OthersRefused(unittest.TestCase):
    def test_widths(self):
        for call in (read_set, read_machine, read_row):
            for many in STRANGE:
                refused(self, (BadWidth, many), call, many, None)
            for value in NO_STRINGS:
                refused(self, (BadText, 0, 0), call, 2, value)

    def test_sets(self):
        for many, text, word in (
                (1, "", 0), (2, "none none", 1), (2, "none or ( 1 2 )", 1), (2, "1 2", 0), (2, "( 1 2", 3), (2, "( 1 )", 2),
                (2, "( 1 2 3 )", 3), (2, "( 1 2 ) ( 1 2 )", 4), (2, "( 1 2 ) +", 5), (2, "( 1 2 ) + none", 5), (2, "( 1 2 ) or", 5),
                (2, "( 1 2 ) or none", 5), (2, "( 1 2 ) ; ( 1 2 )", 4), (2, "( -1 2 )", 1), (2, "( 01 2 )", 1), (1, "( 1000000001 )", 1),
                (1, "( x0 )", 1), (1, "(1)", 0), (1, "( )", 1), (1, "( 1 ) + ( 1000000001 )", 5), (1, "( 1 )\n", 2), (1, "( \u0661 )", 1)):
            refused(self, (BadText, 0, word), read_set, many, text)
        # Behind all words.
        refused(self, (BadSet, 1), read_set, 1, "( 1 ) + ( 0 )")
        refused(self, (BadSet, 1), read_set, 1, "( 1 ) + ( 2 ) + ( 1 )")
        refused(self, (BadSet, 2), read_set, 1, "( 1 ) or ( 1 )")
        refused(self, (BadSet, 3), read_set, 1, "( 0 ) or ( 1 ) or ( 0 )")
        refused(self, (BadText, 0, 8), read_set, 1, "( 1 ) or ( 1 ) or")
        refused(self, (BadText, 0, 8), read_set, 1, "( 1 ) + ( 0 ) or")
        refused(self, (BadSet, 1), read_set, 1, "( 0 )" + "".join(" + ( %d )" % at for at in range(1, 14)))
        lines = ["( %d )" % at for at in range(401)]
        self.assertEqual(len(read_set(1, " or ".join(lines[:400]))[1]), 400)
        refused(self, (TooGreat, 400), read_set, 1, " or ".join(lines))
        refused(self, (BadText, 0, 401 * 4), read_set, 1, " or ".join(lines) + " or")

    def test_machines(self):
        for many, text, word in (
                (1, "", 0), (1, "0", 1), (1, "0 0", 2), (1, "0 0 maybe", 2), (1, "0 0 yes yes", 3), (1, "0 0 0 yes", 2), (1, "0 yes", 1),
                (2, "0 0 yes", 2), (1, "0 0 yes ;", 4), (1, "0 0 yes ; 0", 5), (1, "-1 0 yes", 0), (1, "0 00 yes", 1),
                (1, "1000000001 0 yes", 0), (1, "0 0 Yes", 2), (1, "0 0 yes;", 2), (1, "; 0 0 yes", 0)):
            refused(self, (BadText, 0, word), read_machine, many, text)
        refused(self, (BadMachine, (1, 0, 1)), read_machine, 1, "0 1 yes")
        refused(self, (BadMachine, (1, 0, 1)), read_machine, 1, "0 1000000000 yes")
        refused(self, (BadMachine, (2, 1)), read_machine, 1, "0 1 yes ; 0 0 no")
        refused(self, (TooGreat, 600), read_machine, 1, " ; ".join(["0 0 no"] * 601))
        refused(self, (BadText, 0, 601 * 4), read_machine, 1, " ; ".join(["0 7 no"] * 601) + " ;")

    def test_rows(self):
        for many, text, word in (
                (1, "", 0), (2, "1", 1), (2, "1 2 3", 2), (1, "-1", 0), (1, "1" + "0" * 59 + "01", 0), (1, "01", 0), (2, "1 x", 1),
                (1, "1\n", 0), (1, "( 1 )", 0), (1, "\u0661", 0), (1, "1" * 100000, 0), (4, "1 2 3 ", 3)):
            refused(self, (BadText, 0, word), read_row, many, text)
        self.assertEqual(read_row(1, "1" + "0" * 60), (NUMBER,))

    def test_changed_texts(self):
        rand = make_rand(8203)
        for _ in range(1500):
            many = rand.randint(1, 3)
            value = rand_set(rand, many, 3, 3, 2)
            words = changed(rand, set_text(value).split(" "), WORDS[:-1])
            want = self.wrong_in_set(many, words)
            try:
                need_set(read_set(many, " ".join(words)))
            except BadText as error:
                self.assertEqual((error.line, error.word), (0, want))
            except BadSet:
                self.assertIs(want, None)
            else:
                self.assertIs(want, None)
            machine = rand_machine(rand, rand.randint(1, 2), rand.randint(1, 3))
            words = changed(rand, machine_text(machine).split(" "), WORDS[:-1])
            want = self.wrong_in_machine(machine[0], words)
            try:
                need_machine(read_machine(machine[0], " ".join(words)))
            except BadText as error:
                self.assertEqual((error.line, error.word), (0, want))
            except BadMachine:
                self.assertIs(want, None)
            else:
                self.assertIs(want, None)

    def wrong_in_set(self, many, words):
        """Signs of a set's text, one for each word, by what must come behind what."""
        if words[:1] == ["none"]:
            return 1 if len(words) > 1 else None
        for at, word in enumerate(words):
            place = at % (many + 3)
            if place == 0:
                fits = word == "("
            elif place <= many:
                fits = integer(word, 0, BILLION) is not None
            else:
                fits = word == ")" if place == many + 1 else word in ("+", "or")
            if not fits:
                return at
        return None if len(words) % (many + 3) == many + 2 else len(words)

    def wrong_in_machine(self, many, words):
        size = 2 ** many + 2
        for at, word in enumerate(words):
            place = at % size
            if place < size - 2:
                fits = integer(word, 0, BILLION) is not None
            else:
                fits = word in ("yes", "no") if place == size - 2 else word == ";"
            if not fits:
                return at
        return None if len(words) % size == size - 1 else len(words)


class Names(unittest.TestCase):
    def test_bound_names(self):
        formula = somes((0, 9), ge(0, (0, 1), (9, 1)))
        self.assertEqual(read_formula(formula_text(formula)), formula)


if __name__ == "__main__":
    unittest.main()
