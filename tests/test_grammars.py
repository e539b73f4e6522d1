"""Points 53 to 55: grammars, ways, uses."""

import unittest
from itertools import product

from tests.helpers import STRANGE, Touchy, make_rand, refused, same_value
from wholesay.errors import BadGrammar, BadPaper, TooGreat
from wholesay.grammars import is_uses, is_way, letters_of, need_grammar, uses_in, way_with, word_of
from wholesay.trees import flattened, rounds

A = ("letter", 0)
B = ("letter", 1)
S = ("variable", 0)
T = ("variable", 1)
PAIRS = (1, ((0, (S, S)), (0, (A,))))
NEST = (2, ((0, (A, S, B)), (0, ())))
TWO = (2, ((0, (S, T)), (0, (A,)), (1, (T, T, A)), (1, ()), (2, (B,))))
CHAIN = (2, ((0, (B, S)), (0, (A,))))


def rand_grammar(rand):
    many, variables = rand.randint(1, 3), rand.randint(1, 4)
    rules = []
    for _ in range(rand.randint(1, 8)):
        body = []
        for _ in range(rand.choice((0, 1, 1, 2, 2, 3))):
            body.append(rand.choice((("letter", rand.randrange(many)), ("variable", rand.randrange(variables)))))
        rules.append((rand.randrange(variables), tuple(body)))
    return (many, tuple(rules))


def slow_ways(grammar, most, cap=400):
    """All whole ways of at most so many rules, by putting bodies into words."""
    found, level = [], [((), (S,))]
    while level:
        more = []
        for way, word in level:
            at = next((k for k, item in enumerate(word) if item[0] == "variable"), None)
            if at is None:
                found.append((way, tuple(which for _, which in word)))
                continue
            # Each open variable needs one rule at least.
            if len(way) + sum(item[0] == "variable" for item in word) <= most:
                for number, (variable, body) in enumerate(grammar[1]):
                    if variable == word[at][1]:
                        more.append((way + (number,), word[:at] + body + word[at + 1:]))
        level = more[:cap * 10]
    return found


class Passed(unittest.TestCase):
    def test_grammars(self):
        widest = (4, tuple((at % 4, (("letter", 3), ("variable", 3)) * 3) for at in range(8)))
        for value in (PAIRS, NEST, TWO, CHAIN, widest, (1, ((3, ()),)), (1, ((0, ()),) * 8)):
            self.assertIs(need_grammar(value), value)
        self.assertEqual(need_grammar(value=PAIRS), PAIRS)

    def test_refused(self):
        calls = [(need_grammar, ()), (word_of, (None,)), (uses_in, (None,)), (is_way, (None,)), (is_uses, (None,)),
                 (letters_of, (None,)), (way_with, (None,)), (rounds, (None,)), (flattened, (None,))]
        good = (0, ())
        for call, more in calls:
            for value in STRANGE + ((1,), (1, (), ()), [1, (good,)]):
                refused(self, (BadGrammar, ()), call, value, *more)
            for many in STRANGE + (0, 5):
                refused(self, (BadGrammar, (0,)), call, (many, None), *more)
            for rules in ((), (good,) * 9, [good], None, "0", (None,) * 9):
                refused(self, (BadGrammar, (1,)), call, (1, rules), *more)
            for rule in STRANGE + (
                    (0,), (0, (), ()), [0, ()], (-1, ()), (4, ()), (True, ()), ("0", ()), (None, ()), (0, []), (0, None),
                    (0, (A,) * 7), (0, (("letter", 2),)), (0, (("letter", -1),)), (0, (("letter", False),)),
                    (0, (("variable", 4),)), (0, (("variable", -1),)), (0, (("variable", True),)), (0, (("rule", 0),)),
                    (0, ((0, 0),)), (0, (("letter",),)), (0, ((Touchy(), 0),)), (0, (("letter", 0, 0),)), (0, (["letter", 0],)), (0, (A, None)),
                    (0, ("letter", 0)), (0, (("letter", 0.0),))):
                refused(self, (BadGrammar, (1, 0)), call, (2, (rule,)), *more)
                refused(self, (BadGrammar, (1, 2)), call, (2, (good, good, rule, None)), *more)


class Ways(unittest.TestCase):
    def test_words(self):
        self.assertEqual(word_of(grammar=NEST, way=(0, 0, 1)), (0, 0, 1, 1))
        self.assertEqual(word_of(NEST, (1,)), ())
        self.assertEqual(uses_in(grammar=NEST, way=(0, 0, 1)), (2, 1))
        self.assertEqual(word_of((2, ((0, (S, A, T)), (0, ()), (1, (B, B)))), (0, 0, 1, 2, 2)), (0, 1, 1, 0, 1, 1))
        rand = make_rand(5401)
        seen = 0
        for _ in range(120):
            grammar = rand_grammar(rand)
            whole = dict(slow_ways(grammar, 6))
            seen += len(whole)
            for way, word in list(whole.items())[:40]:
                self.assertEqual(word_of(grammar, way), word)
                self.assertIs(is_way(grammar, way), True)
                uses = uses_in(grammar, way)
                self.assertEqual(uses, tuple(way.count(rule) for rule in range(len(grammar[1]))))
                self.assertEqual(letters_of(grammar, uses), tuple(word.count(at) for at in range(grammar[0])))
            for way in product(range(min(3, len(grammar[1]))), repeat=3):
                self.assertIs(is_way(grammar, way), way in whole)
        self.assertGreater(seen, 500)

    def test_no_ways(self):
        for way in ((), (0,), (0, 0), (1, 1), (0, 1, 1), (0, 1, 0, 1), (2,), (-1,), (True,), (0, True), (0, 1.0), (None,)):
            self.assertIs(is_way(grammar=NEST, way=way), False)
            for call in (word_of, uses_in, rounds, flattened):
                refused(self, (BadPaper, "way"), call, NEST, way)
        for way in STRANGE:
            if not same_value(way, (1,)):
                self.assertIs(is_way(NEST, way), False)
                for call in (word_of, uses_in, rounds, flattened):
                    refused(self, (BadPaper, "way"), call, NEST, way)
        refused(self, (BadPaper, "way"), word_of, TWO, (4,))
        self.assertIs(is_way(TWO, (0, 4, 3)), False)

    def test_long_ways(self):
        kept, passed = (0,) * 399 + (1,), (0,) * 400 + (1,)
        self.assertEqual(word_of(CHAIN, kept), (1,) * 399 + (0,))
        self.assertEqual(uses_in(CHAIN, kept), (399, 1))
        self.assertEqual(rounds(CHAIN, kept), 0)
        self.assertIs(is_way(CHAIN, kept), True)
        self.assertIs(is_way(CHAIN, passed), False)
        for call in (word_of, uses_in, rounds, flattened):
            refused(self, (TooGreat, 400), call, CHAIN, passed)
            refused(self, (TooGreat, 400), call, CHAIN, (None,) * 401)
            refused(self, (BadPaper, "way"), call, CHAIN, (None,) * 400)
        self.assertEqual(len(word_of((1, ((0, (A, A, A, A, A, S)), (0, ()))), (0,) * 399 + (1,))), 1995)


class Uses(unittest.TestCase):
    def test_balanced_and_connected(self):
        for grammar, uses, truth in (
                (PAIRS, (2, 3), True), (PAIRS, (0, 1), True), (PAIRS, (2, 2), False), (PAIRS, (2, 4), False),
                (PAIRS, (0, 0), False), (PAIRS, (10 ** 70, 10 ** 70 + 1), True), (PAIRS, (-1, 0), False),
                (NEST, (10 ** 70, 1), True), (NEST, (5, 2), False), (NEST, (0, 1), True),
                (TWO, (1, 1, 0, 1, 0), True), (TWO, (0, 1, 1, 1, 0), False), (TWO, (1, 1, 1, 2, 0), True),
                (TWO, (0, 1, 0, 0, 1), False), (TWO, (0, 1, 0, 0, 0), True),
                # Balanced, but the variable 1 only makes itself.
                ((1, ((0, ()), (1, (T,)))), (1, 5), False), ((1, ((0, (T,)), (1, (T,)), (1, ()))), (1, 5, 1), True),
                (PAIRS, (2, 3, 0), False), (PAIRS, (2,), False), (PAIRS, [2, 3], False), (PAIRS, (2, True), False),
                (PAIRS, (False, 1), False), (PAIRS, (2.0, 3), False), (PAIRS, (None, 3), False)):
            self.assertIs(is_uses(grammar=grammar, uses=uses), truth, (grammar, uses))
        for value in STRANGE:
            self.assertIs(is_uses(PAIRS, value), False)
        self.assertIs(is_uses((1, ((0, ()),)), (1,)), True)

    def test_exactly_the_uses_of_ways(self):
        rand = make_rand(5501)
        ways = 0
        for _ in range(150):
            grammar = rand_grammar(rand)
            if len(grammar[1]) > 5:
                continue
            most = 6
            by_uses = {}
            for way, _ in slow_ways(grammar, most, 10 ** 9):
                by_uses.setdefault(tuple(way.count(rule) for rule in range(len(grammar[1]))), []).append(way)
            for uses in product(range(4), repeat=len(grammar[1])):
                if sum(uses) <= most:
                    self.assertIs(is_uses(grammar, uses), uses in by_uses, (grammar, uses))
                    if uses in by_uses:
                        ways += 1
                        self.assertEqual(way_with(grammar, uses), min(by_uses[uses]))
                    else:
                        refused(self, (BadPaper, "uses"), way_with, grammar, uses)
        self.assertGreater(ways, 300)

    def test_letters(self):
        self.assertEqual(letters_of(grammar=TWO, uses=(9, 2, 3, 8, 4)), (5, 4))
        self.assertEqual(letters_of((3, ((0, (A, A, B)), (0, (A,)))), (10 ** 70, 1)), (2 * 10 ** 70 + 1, 10 ** 70, 0))
        self.assertEqual(letters_of(PAIRS, (0, 0)), (0,))
        for uses in STRANGE + ((2,), (2, 3, 4), (2, -1), (True, 1), (1, 1.0), [1, 1]):
            refused(self, (BadPaper, "uses"), letters_of, PAIRS, uses)

    def test_way_with(self):
        self.assertEqual(way_with(grammar=PAIRS, uses=(2, 3)), (0, 0, 1, 1, 1))
        self.assertIs(is_way(PAIRS, (0, 1, 0, 1, 1)), True)
        self.assertEqual(way_with(CHAIN, (399, 1)), (0,) * 399 + (1,))
        refused(self, (TooGreat, 400), way_with, CHAIN, (400, 1))
        refused(self, (TooGreat, 400), way_with, CHAIN, (10 ** 70, 1))
        refused(self, (BadPaper, "uses"), way_with, CHAIN, (400, 2))
        # The first rule ends all that is open while others are left: it must wait.
        late = (1, ((0, ()), (0, (S, S)), (0, (T,)), (1, (S,))))
        self.assertEqual(way_with(late, (2, 1, 0, 0)), (1, 0, 0))
        self.assertEqual(way_with(late, (2, 1, 2, 2)), (1, 0, 2, 3, 2, 3, 0))
        for uses in STRANGE:
            refused(self, (BadPaper, "uses"), way_with, PAIRS, uses)


if __name__ == "__main__":
    unittest.main()
