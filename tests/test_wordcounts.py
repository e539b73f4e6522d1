"""Point 56: letter counts of grammars, uses for them, grammars with unlike ones."""

import unittest
from itertools import combinations, product

from tests.helpers import NUMBER, STRANGE, make_rand, refused, refuses_strange
from tests.test_grammars import A, B, S, T, rand_grammar, slow_ways
from tests.trying import plus, slow_rows
from wholesay.equations import need_equations, told_set
from wholesay.errors import BadGrammar, BadRow, NoRow, SayError, TooGreat, Unlike
from wholesay.grammars import is_uses, letters_of
from wholesay.lines import need_set
from wholesay.linework import has
from wholesay.turning import machine_of_set
from wholesay.wordcounts import counts_apart, counts_of, uses_for

C = ("letter", 2)
D = ("letter", 3)
R = ("variable", 2)
EXAMPLE = (2, ((0, (A, S, B)), (0, ())))
# 18 or 19 times one of three letters: 190 and 210 counts.
MANY = ((0, (T, T, T, R)), (0, (T, T, T)), (1, (R,) * 6), (2, (A,)), (2, (B,)), (2, (C,)))
FIVES = ((0, (S,) + (T,) * 5), (0, (S,) + (T,) * 4), (0, (S, A)), (0, ()), (1, (A,)), (1, (B,)))
# Its periods are tied by great numbers in two places.
TIED = (2, ((0, ()), (0, (A, A, S, S, S, S)), (0, (A,)), (0, (B,))))
# Its formula is more than a machine can be made of.
WILD = (2, ((0, ()), (0, (B,)), (0, (A, B, B, S, S, S)), (0, (A,))))


def of_words(grammar, most):
    """The letter counts of the words of short ways, found by trying."""
    return {tuple(word.count(letter) for letter in range(grammar[0])) for _, word in slow_ways(grammar, most)}


def slow_equations(grammar):
    """The equations of the document, for each U and each T in turn."""
    many, rules = grammar
    subsets = sorted((0,) + more for size in range(4) for more in combinations((1, 2, 3), size))
    for some in subsets:
        inside = [k for k, (own, body) in enumerate(rules) if {own} | {v for kind, v in body if kind == "variable"}
                  <= set(some)]
        makers = [[k for k in inside if ("variable", v) in rules[k][1]] for v in some[1:]]
        for chosen in product(*makers):
            up = {v: rules[k][0] for v, k in zip(some[1:], chosen)}
            if all(climbs(up, v) for v in some[1:]):
                yield many, rules, some, inside, chosen


def climbs(up, variable):
    for _ in range(5):
        variable = up.get(variable, 0)
    return variable == 0


def slow_counts(grammar):
    lines = set()
    for many, rules, some, inside, chosen in slow_equations(grammar):
        rows = []
        for letter in range(many):
            factors = [-1 if letter == k else 0 for k in range(many)]
            factors += [rules[k][1].count(("letter", letter)) for k in inside]
            rows.append(("eq", tuple(factors), sum(factors[many + inside.index(k)] for k in set(chosen))))
        for variable in some:
            factors = [0] * many
            factors += [rules[k][1].count(("variable", variable)) - (rules[k][0] == variable) for k in inside]
            sure = sum(factors[many + inside.index(k)] for k in set(chosen))
            rows.append(("eq", tuple(factors), sure + (variable == 0)))
        lines |= set(told_set(many, need_equations((many + len(inside), tuple(rows))))[1])
    return (grammar[0], tuple(sorted(lines)))


class Counts(unittest.TestCase):
    def test_the_example(self):
        self.assertEqual(counts_of(EXAMPLE), (2, (((0, 0), ((1, 1),)),)))
        self.assertEqual(counts_of(grammar=EXAMPLE), counts_of(EXAMPLE))

    def test_no_words(self):
        for rules in (((0, (S,)),), ((1, (A,)),), ((0, (A, T)), (1, (T, T))), ((0, (T,)), (2, (A,)))):
            self.assertEqual(counts_of((1, rules)), (1, ()))
        self.assertEqual(counts_of((3, ((0, ()),))), (3, (((0, 0, 0), ()),)))

    def test_what_is_not_connected_does_not_count(self):
        # The rules 1 would be balanced alone, without being come to.
        grammar = (1, ((0, (A,)), (1, (T, A))))
        self.assertEqual(counts_of(grammar), (1, (((1,), ()),)))
        # A chosen rule is used once at least, and only one of several need be.
        grammar = (1, ((0, (T, T, R)), (1, (A, A)), (2, (T,)), (0, (A,))))
        self.assertEqual(counts_of(grammar), (1, (((1,), ()), ((6,), ()))))
        # One rule may make several variables.
        grammar = (2, ((0, (T, R)), (1, (A,)), (2, (B, S)), (2, ())))
        self.assertEqual(slow_rows(counts_of(grammar), 9), {(k + 1, k) for k in range(9)})

    def test_beside_the_words_and_the_equations(self):
        rand = make_rand(5601)
        told = 0
        for _ in range(200):
            grammar = rand_grammar(rand)
            value = counts_of(grammar)
            self.assertIs(need_set(value), value)
            self.assertEqual(value, slow_counts(grammar))
            rows = of_words(grammar, 7)
            told += len(rows)
            small = slow_rows(value, 6)
            self.assertTrue({row for row in rows if max(row) <= 6} <= small, grammar)
            for row in sorted(small)[:12]:
                uses = uses_for(grammar, row)
                self.assertIs(is_uses(grammar, uses), True)
                self.assertEqual(letters_of(grammar, uses), row)
        self.assertGreater(told, 500)

    def test_great_rows_of_lines(self):
        rand = make_rand(5602)
        for _ in range(60):
            grammar = rand_grammar(rand)
            for base, periods in counts_of(grammar)[1][:4]:
                row = base
                for period in periods:
                    row = plus(row, period, rand.randint(0, 10 ** 58))
                uses = uses_for(grammar=grammar, row=row)
                self.assertIs(is_uses(grammar, uses), True)
                self.assertEqual(letters_of(grammar, uses), row)
        self.assertEqual(uses_for(EXAMPLE, (NUMBER, NUMBER)), (NUMBER, 1))

    def test_400_lines(self):
        self.assertEqual(len(counts_of((3, MANY))[1]), 400)
        # Each of the equations has few solutions, all of them together have 401 lines.
        refused(self, (TooGreat, 400), counts_of, (3, MANY + ((0, ()),)))
        self.assertEqual(len(counts_of((3, MANY + ((0, (T, T, T)),)))[1]), 400)
        # 36 times one of four letters.
        refused(self, (TooGreat, 400), counts_of,
                (4, ((0, (T,) * 6), (1, (R,) * 6), (2, (A,)), (2, (B,)), (2, (C,)), (2, (D,)))))

    def test_12_periods(self):
        value = counts_of((2, FIVES))
        self.assertEqual(max([len(line[1]) for line in value[1]]), 12)
        refused(self, (TooGreat, 12), counts_of, (2, FIVES + ((0, (S, B)),)))
        # Where no line would have them, many periods do not matter.
        self.assertEqual(counts_of((2, FIVES[:3] + FIVES[4:] + ((0, (S, B)),))), (2, ()))

    def test_the_order_of_errors(self):
        def grammar(one, two):
            # At U = (0, one) there are more than 12 periods, at U = (0, two) more than 400 solutions.
            first, second = ("variable", one), ("variable", two)
            return (3, ((0, (A,)), (0, (B,)), (0, (C,)), (0, (first, first)), (one, (S, S, S)),
                        (0, (second,) * 6), (two, (S,) * 6)))
        refused(self, (TooGreat, 12), counts_of, grammar(1, 2))
        refused(self, (TooGreat, 400), counts_of, grammar(2, 1))
        refused(self, (TooGreat, 12), counts_of, grammar(2, 3))
        refused(self, (TooGreat, 400), counts_of, grammar(3, 2))
        # Too many periods at U = (0, 2), but U = (0, 1, 2) comes ahead of it, with too many solutions.
        refused(self, (TooGreat, 400), counts_of,
                (3, ((0, (A,)), (0, (B,)), (0, (C,)), (0, (R, R)), (2, (S, S, S)), (0, (T,) * 6), (1, (R, R)))))


class Uses(unittest.TestCase):
    def test_what_no_word_has(self):
        refused(self, (NoRow,), uses_for, EXAMPLE, (1, 0))
        refused(self, (NoRow,), uses_for, EXAMPLE, (NUMBER, NUMBER - 1))
        refused(self, (NoRow,), uses_for, (1, ((0, (S,)),)), (0,))
        rand = make_rand(5603)
        for _ in range(60):
            grammar = rand_grammar(rand)
            value = counts_of(grammar)
            for row in product(range(3), repeat=grammar[0]):
                if not has(value, row):
                    refused(self, (NoRow,), uses_for, grammar, row)

    def test_tied_periods(self):
        grammar = (1, ((0, (S, T)), (0, (S, R)), (0, ()), (1, (A,) * 4), (2, (A,) * 6)))
        for number in range(40):
            if number % 2 or number == 2:
                refused(self, (NoRow,), uses_for, grammar, (number,))
            else:
                uses = uses_for(grammar, (number,))
                self.assertTrue(is_uses(grammar, uses) and letters_of(grammar, uses) == (number,))
        uses = uses_for(grammar, (NUMBER,))
        self.assertTrue(is_uses(grammar, uses) and letters_of(grammar, uses) == (NUMBER,))

    def test_wrong(self):
        refuses_strange(self, BadRow, uses_for, ((1, ((0, ()),)),), let=((1,),))
        for row in ((1,), (1, 1, 1), (1, True), (1, -1), (1, NUMBER + 1), [1, 1], (1, 1.0)):
            refused(self, (BadRow, row), uses_for, EXAMPLE, row)
        for value in STRANGE:
            refused(self, (BadGrammar, ()), counts_of, value)
            refused(self, (BadGrammar, ()), uses_for, value, None)
        refused(self, (BadGrammar, (1, 1)), uses_for, (1, ((0, ()), (0, (B,)))), None)
        # The row is looked at ahead of the set, the set ahead of whether it has the row.
        refused(self, (BadRow, (1, 1)), uses_for, (3, MANY + ((0, ()),)), (1, 1))
        refused(self, (TooGreat, 400), uses_for, (3, MANY + ((0, ()),)), (1, 1, 0))
        refused(self, (TooGreat, 12), uses_for, (2, FIVES + ((0, (S, B)),)), (0, 0))
        self.assertEqual(len(counts_of(TIED)[1]), 3)
        refused(self, (TooGreat, 400), uses_for, TIED, (0, 0))


class Apart(unittest.TestCase):
    def test_alike_and_apart(self):
        turned = (2, ((0, (B, S, A)), (0, ())))
        self.assertIs(counts_apart(EXAMPLE, turned), None)
        self.assertIs(counts_apart(one=EXAMPLE, other=EXAMPLE), None)
        self.assertEqual(counts_apart(EXAMPLE, (2, ((0, ()),))), (1, 1))
        self.assertEqual(counts_apart((2, ((0, (A,)),)), (2, ((0, (S,)),))), (1, 0))
        twos = (2, ((0, (A, A, S, B, B)), (0, ()), (0, (A, B))))
        self.assertIs(counts_apart(EXAMPLE, twos), None)

    def test_beside_rows(self):
        rand = make_rand(5604)
        apart = 0
        for _ in range(60):
            one, other = rand_grammar(rand), rand_grammar(rand)
            if one[0] != other[0]:
                refused(self, (Unlike, other[0]), counts_apart, one, other)
                continue
            try:
                row = counts_apart(one, other)
            except TooGreat:
                continue
            first, second = counts_of(one), counts_of(other)
            if row is None:
                self.assertEqual(machine_of_set(first), machine_of_set(second))
                self.assertEqual(slow_rows(first, 4), slow_rows(second, 4))
                continue
            apart += 1
            self.assertIsNot(has(first, row), has(second, row))
            digits = max(row).bit_length()
            near = slow_rows(first, 7) ^ slow_rows(second, 7)
            if digits <= 3:
                best = min(near, key=lambda each: (max(each).bit_length(), each))
                self.assertEqual(row, best)
            else:
                self.assertFalse(near)
        self.assertGreater(apart, 10)

    def test_wrong(self):
        refused(self, (BadGrammar, ()), counts_apart, None, None)
        refused(self, (BadGrammar, (0,)), counts_apart, EXAMPLE, (0, ()))
        refused(self, (BadGrammar, (1,)), counts_apart, (1, ()), None)
        refused(self, (Unlike, 3), counts_apart, EXAMPLE, (3, MANY + ((0, ()),)))
        refused(self, (Unlike, 2), counts_apart, (3, MANY + ((0, ()),)), EXAMPLE)
        # The sets of both come ahead of the machines.
        wide = (2, FIVES + ((0, (S, B)),))
        refused(self, (TooGreat, 12), counts_apart, wide, EXAMPLE)
        refused(self, (TooGreat, 12), counts_apart, WILD, wide)
        refused(self, (TooGreat, 300), counts_apart, WILD, EXAMPLE)
        refused(self, (TooGreat, 300), counts_apart, EXAMPLE, WILD)
        refused(self, (TooGreat, 300), counts_apart, WILD, TIED)
        refused(self, (TooGreat, 400), counts_apart, TIED, WILD)

    def test_many_pairs(self):
        def of(*lengths):
            return (3, tuple((0, (S,) + (letter,) * each) for letter, each in zip((A, B, C), lengths)) + ((0, ()),))
        self.assertEqual(counts_apart(of(5, 3, 1), of(3, 5, 1)), (0, 3, 0))
        refused(self, (TooGreat, 3000), counts_apart, of(5, 3, 5), of(3, 5, 3))
        self.assertIs(counts_apart(of(5, 3, 5), of(5, 3, 5)), None)

    def test_all_errors_are_of_the_package(self):
        for value in (TIED, WILD):
            with self.assertRaises(SayError):
                counts_apart(value, value)


if __name__ == "__main__":
    unittest.main()
