"""Point 57: rounds, and ways made flat. (Which grammars and ways are refused is tested beside the grammars.)"""

import unittest

from tests.helpers import make_rand, refused
from tests.test_grammars import A, PAIRS, S, rand_grammar, slow_ways
from wholesay.errors import BadPaper, TooGreat
from wholesay.grammars import is_way, uses_in
from wholesay.trees import flattened, rounds


def slow_rounds(grammar, way):
    """By the tree itself."""
    def tree(at):
        under, at_next = [], at + 1
        for kind, _ in grammar[1][way[at]][1]:
            if kind == "variable":
                found, at_next = tree(at_next)
                under.append(found)
        most = max(under, default=0)
        return (0 if not under else most + (under.count(most) > 1)), at_next
    return tree(0)[0]


def grown(rand, grammar, most):
    """A whole way whose tree is as wide as can be: the bodies that come first are put in first."""
    rules = grammar[1]
    ends = {}
    for _ in range(4):
        for number, (variable, body) in enumerate(rules):
            inner = [which for kind, which in body if kind == "variable"]
            if variable not in ends and all(which in ends for which in inner):
                ends[variable] = (number, 1 + sum(ends[which][1] for which in inner))
    if 0 not in ends or ends[0][1] > most:
        return None
    node = [0, None, []]
    queue, total = [node], ends[0][1]
    while queue:
        each = queue.pop(0 if rand.random() < 0.8 else -1)
        fits = []
        for number, (variable, body) in enumerate(rules):
            inner = [which for kind, which in body if kind == "variable"]
            if variable == each[0] and inner and all(which in ends for which in inner):
                cost = 1 + sum(ends[which][1] for which in inner) - ends[variable][1]
                if total + cost <= most:
                    fits.append((number, cost, inner))
        number, cost, inner = rand.choice(fits) if fits else (
            ends[each[0]][0], 0, [which for kind, which in rules[ends[each[0]][0]][1] if kind == "variable"])
        total += cost
        each[1] = number
        each[2] = [[which, None, []] for which in inner]
        queue += each[2]
    way, open_nodes = [], [node]
    while open_nodes:
        each = open_nodes.pop()
        way.append(each[1])
        open_nodes += each[2][::-1]
    return tuple(way)


class Rounds(unittest.TestCase):
    def test_rounds(self):
        self.assertEqual(rounds(grammar=PAIRS, way=(1,)), 0)
        self.assertEqual(rounds(PAIRS, (0, 1, 1)), 1)
        self.assertEqual(rounds(PAIRS, (0, 0, 1, 1, 1)), 1)
        self.assertEqual(rounds(PAIRS, (0, 0, 1, 1, 0, 1, 1)), 2)
        three = (1, ((0, (S, A, S, S)), (0, ()), (0, (S,))))
        self.assertEqual(rounds(three, (0, 1, 1, 1)), 1)
        self.assertEqual(rounds(three, (0, 0, 1, 1, 1, 1, 0, 1, 1, 1)), 2)
        self.assertEqual(rounds(three, (2, 2, 1)), 0)
        self.assertEqual(rounds(PAIRS, (0, 1) * 199 + (1,)), 1)
        self.assertEqual(rounds(PAIRS, (0,) * 199 + (1,) * 200), 1)
        rand = make_rand(5701)
        for _ in range(60):
            grammar = rand_grammar(rand)
            for way, _ in slow_ways(grammar, 8)[:60]:
                self.assertEqual(rounds(grammar, way), slow_rounds(grammar, way))


class Flattened(unittest.TestCase):
    def judge(self, grammar, way):
        made = flattened(grammar, way)
        self.assertIs(is_way(grammar, made), True)
        self.assertEqual(uses_in(grammar, made), uses_in(grammar, way))
        self.assertLessEqual(rounds(grammar, made), len({grammar[1][rule][0] for rule in way}))
        return made

    def test_one_variable(self):
        whole = (0, 0, 0, 0, 1, 1, 0, 1, 1, 0, 0, 1, 1, 0, 1, 1, 0, 0, 0, 1, 1, 0, 1, 1, 0, 0, 1, 1, 0, 1, 1)
        self.assertEqual(rounds(PAIRS, whole), 4)
        self.assertEqual(rounds(PAIRS, self.judge(PAIRS, whole)), 1)
        self.assertEqual(flattened(grammar=PAIRS, way=(1,)), (1,))

    def test_many(self):
        rand = make_rand(5702)
        flat = 0
        unlike = {}
        for _ in range(600):
            variables = rand.randint(1, 3)
            rules = [(variable, ()) for variable in range(variables)]
            while len(rules) < 7:
                body = tuple(("variable", rand.randrange(variables)) for _ in range(rand.choice((1, 2, 2, 3))))
                rules.append((rand.randrange(variables), body))
            grammar = (1, tuple(rules))
            way = grown(rand, grammar, rand.randint(20, 60))
            self.judge(grammar, way)
            kinds = len({rules[rule][0] for rule in way})
            flat += rounds(grammar, way) > kinds
            unlike[kinds] = unlike.get(kinds, 0) + (rounds(grammar, way) > kinds)
        self.assertTrue(min(unlike[kinds] for kinds in (1, 2, 3)) > 3, unlike)
        for _ in range(100):
            grammar = rand_grammar(rand)
            way = grown(rand, grammar, 60)
            if way is not None:
                self.judge(grammar, way)

    def test_limits(self):
        kept = (1, ((0, (S, S)), (0, (A,)), (0, (S,))))
        self.assertEqual(len(self.judge(kept, (2,) + (0,) * 29 + (1,) * 30)), 60)
        refused(self, (TooGreat, 60), flattened, PAIRS, (0,) * 30 + (1,) * 31)
        refused(self, (BadPaper, "way"), flattened, PAIRS, (0,) * 30 + (1,) * 32)


if __name__ == "__main__":
    unittest.main()
