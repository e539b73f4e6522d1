"""Point 41: papers for no solution."""

import unittest

from tests.helpers import STRANGE, Touchy, make_rand, refused
from tests.trying import rand_equations, slow_solutions
from wholesay.equations import solves
from wholesay.errors import BadEquations, TooGreat, Unlike
from wholesay.leasts import least
from wholesay.unsolved import is_unsolved_paper, unsolved_paper

APART = (2, (("eq", (1, 1), -1), ("ge", (1, 0), -2)))
ODD = (2, (("eq", (2, -2), -1),))
COINS = (2, (("eq", (2, 3), -1),))
COINS_PAPER = ("cases", 0, (-1,), (("rest", 3, (1,)),))
STRIP = (2, (("ge", (3, -3), -1), ("ge", (-3, 3), 2)))


def is_fair(count, rows, paper):
    """The words of the document, once more."""
    kind, weights = paper[0], paper[2] if paper[0] != "bar" else paper[1]
    if len(weights) != len(rows):
        return False
    factors = [sum(w * row[-2][k] for w, row in zip(weights, rows)) for k in range(count)]
    const = sum(w * row[-1] for w, row in zip(weights, rows))
    if kind == "rest":
        modulus = paper[1]
        right = all(row[0] != "ge" or w == 0 for w, row in zip(weights, rows))
        right = right and all(row[0] != "mod" or w * row[1] % modulus == 0 for w, row in zip(weights, rows))
        return right and modulus >= 2 and not any(each % modulus for each in factors) and const % modulus != 0
    right = all(w == 0 if row[0] == "mod" else w >= 0 or row[0] == "eq" for w, row in zip(weights, rows))
    right = right and max(factors) <= 0
    if kind == "bar":
        return right and const < 0
    case, papers = paper[1], paper[3]
    if not right or const < 0:
        return False
    share = -factors[case] if case < count else weights[case - count]
    if share <= 0 or (case >= count and rows[case - count][0] != "ge") or len(papers) != const // share + 1:
        return False
    for number, each in enumerate(papers):
        if case < count:
            more = [row[:-2] + (tuple(0 if k == case else f for k, f in enumerate(row[-2])),
                                row[-1] + number * row[-2][case]) for row in rows]
        else:
            more = list(rows)
            more[case - count] = ("eq", rows[case - count][1], rows[case - count][2] - number)
        if not is_fair(count, more, each):
            return False
    return True


class Judged(unittest.TestCase):
    def test_examples(self):
        self.assertIs(is_unsolved_paper(APART, ("bar", (-1, 1))), True)
        self.assertIs(is_unsolved_paper(ODD, ("rest", 2, (1,))), True)
        self.assertIs(is_unsolved_paper(equations=COINS, paper=COINS_PAPER), True)

    def test_bars(self):
        for paper, truth in ((("bar", (-1, 1)), True), (("bar", (-7, 7)), True), (("bar", (-10 ** 80, 10 ** 80)), True),
                             (("bar", (-1, 0)), False), (("bar", (1, -1)), False), (("bar", (0, 0)), False),
                             (("bar", (-2, 2, 0)), False), (("bar", (-1,)), False), (("bar", [-1, 1]), False),
                             (("bar", (-1, True)), False), (("bar", (-1.0, 1)), False), (("bar", (-1, 1), ()), False),
                             (("bar",), False), (["bar", (-1, 1)], False), (("bars", (-1, 1)), False),
                             ((None, (-1, 1)), False), (("bar", 1), False), (("rest", (-1, 1)), False),
                             (("bar", (-2, 1)), False), (("bar", (-4, 3)), True), (("bar", (-1, 2)), False)):
            self.assertIs(is_unsolved_paper(APART, paper), truth, paper)
        for paper in STRANGE:
            self.assertIs(is_unsolved_paper(APART, paper), False)
            self.assertIs(is_unsolved_paper(APART, ("bar", paper)), False)
            self.assertIs(is_unsolved_paper((1, ()), ("bar", paper)), False)
        for paper in (Touchy(), (Touchy(), (-1, 1)), ("bar", (Touchy(), 1)), ("rest", Touchy(), (-1, 1)),
                      ("cases", Touchy(), (-1, 1), ()), ("cases", 0, (-1, 1), Touchy())):
            self.assertIs(is_unsolved_paper(APART, paper), False)
        below = (2, (("ge", (1, 1), 1), ("ge", (-1, -1), -2), ("mod", 2, (-1, -1), -1)))
        self.assertIs(is_unsolved_paper(below, ("bar", (1, 1, 0))), True)
        self.assertIs(is_unsolved_paper(below, ("bar", (-1, 1, 0))), False)
        self.assertIs(is_unsolved_paper(below, ("bar", (0, 1, 0))), True)
        self.assertIs(is_unsolved_paper(below, ("bar", (0, 0, 1))), False)

    def test_rests(self):
        value = (2, (("eq", (2, 4), -1), ("mod", 6, (3, 3), 1), ("ge", (1, 1), 0)))
        for paper, truth in ((("rest", 2, (1, 0, 0)), True), (("rest", 2, (-5, 0, 0)), True),
                             (("rest", 2, (2, 0, 0)), False), (("rest", 1, (1, 0, 0)), False),
                             (("rest", 0, (1, 0, 0)), False), (("rest", -2, (1, 0, 0)), False),
                             (("rest", True, (1, 0, 0)), False), (("rest", 2.0, (1, 0, 0)), False),
                             (("rest", 4, (1, 0, 0)), False), (("rest", 2, (1, 0, 1)), False),
                             (("rest", 3, (0, 1, 0)), True), (("rest", 9, (0, 3, 0)), True),
                             (("rest", 9, (0, 1, 0)), False), (("rest", 6, (0, 2, 0)), True),
                             (("rest", 3, (0, 3, 0)), False), (("rest", 2, (1, 0)), False),
                             (("rest", 2, (1, 0, 0, 0)), False), (("rest", 2, (1, 0, 0), ()), False),
                             (("rest", 2), False), (("rest", 2, [1, 0, 0]), False), (("rest", "2", (1, 0, 0)), False),
                             (("rest", 4, (0, 4, 0)), False), (("rest", 12, (0, 4, 0)), True),
                             (("rest", 9, (0, 2, 0)), False)):
            self.assertIs(is_unsolved_paper(value, paper), truth, paper)
        # K divides the factors and not the C, but not the weight times M: 3 x + 3 y + 1 may be 4.
        self.assertIs(is_unsolved_paper((2, (("mod", 4, (3, 3), 1),)), ("rest", 3, (1,))), False)
        for paper in STRANGE:
            self.assertIs(is_unsolved_paper(ODD, ("rest", 2, paper)), paper == (1,))
            self.assertIs(is_unsolved_paper(ODD, ("rest", paper, (1,))), False)

    def test_cases(self):
        third = ("rest", 3, (1,))
        for paper, truth in ((COINS_PAPER, True), (("cases", 0, (-1,), (third, third)), False),
                             (("cases", 0, (-1,), ()), False), (("cases", 0, (-2,), (third,)), True),
                             (("cases", 0, (1,), (third,)), False), (("cases", 0, (0,), (third,)), False),
                             (("cases", 1, (-1,), (("rest", 2, (1,)),)), True),
                             (("cases", 1, (-1,), (third,)), False), (("cases", 2, (-1,), (third,)), False),
                             (("cases", 3, (-1,), (third,)), False), (("cases", -1, (-1,), (third,)), False),
                             (("cases", False, (-1,), (third,)), False), (("cases", 0, (-1,), [third]), False),
                             (("cases", 0, (-1,), (third,), ()), False), (("case", 0, (-1,), (third,)), False), (("cases", 0, (-1,)), False),
                             (("cases", 0, [-1], (third,)), False), (("cases", 0, (-1, 0), (third,)), False),
                             (("cases", 0, (-1,), (COINS_PAPER,)), False), (("cases", 0, (-1,), (None,)), False),
                             (("cases", 0, (-1,), (("cases", 1, (-1,), (("bar", (-1,)),)),)), False),
                             (("cases", 0, (-1,), (("cases", 1, (-1,), (("bar", (1,)),)),)), True)):
            self.assertIs(is_unsolved_paper(COINS, paper), truth, paper)
        for paper in STRANGE:
            self.assertIs(is_unsolved_paper(COINS, ("cases", 0, (-1,), paper)), False)
            self.assertIs(is_unsolved_paper(COINS, ("cases", paper, (-1,), (third,))), False)
            self.assertIs(is_unsolved_paper(COINS, ("cases", 0, (-1,), (paper,))), False)
        # The value of a ge: from 0 to 1 each time.
        rests = tuple(("rest", 3, (1, 0)) for _ in range(2))
        self.assertIs(is_unsolved_paper(STRIP, ("cases", 2, (1, 1), rests)), True)
        self.assertIs(is_unsolved_paper(STRIP, ("cases", 3, (1, 1), tuple(("rest", 3, (0, 1)) for _ in range(2)))), True)
        self.assertIs(is_unsolved_paper(STRIP, ("cases", 2, (1, 1), rests[:1])), False)
        self.assertIs(is_unsolved_paper(STRIP, ("cases", 3, (1, 1), rests)), False)
        self.assertIs(is_unsolved_paper(STRIP, ("cases", 4, (1, 1), rests)), False)
        # An eq and a mod have no value to be put in.
        flat = (1, (("eq", (2,), -1), ("mod", 2, (2,), 1), ("ge", (-1,), 1)))
        inner = ("rest", 2, (1, 0, 0))
        self.assertIs(is_unsolved_paper(flat, ("cases", 0, (0, 0, 1), (inner, ("bar", (-1, 0, 0))))), True)
        self.assertIs(is_unsolved_paper(flat, ("cases", 0, (0, 0, 1), (inner, ("bar", (1, 0, 0))))), False)
        self.assertIs(is_unsolved_paper(flat, ("cases", 3, (0, 0, 1), (inner, inner))), True)
        self.assertIs(is_unsolved_paper(flat, ("cases", 1, (1, 0, 2), (inner, inner))), False)
        self.assertIs(is_unsolved_paper(flat, ("cases", 2, (0, 0, 1), (inner, inner))), False)

    def test_cases_of_the_value(self):
        # 2 x = 1, 2 x + 1 even, x <= 1: the mod alone leaves a rest in each case.
        flat = (1, (("eq", (2,), -1), ("mod", 2, (2,), 1), ("ge", (-1,), 1)))
        even = ("rest", 2, (0, 1, 0))
        self.assertIs(is_unsolved_paper(flat, ("cases", 3, (0, 0, 1), (even, even))), True)
        self.assertIs(is_unsolved_paper(flat, ("cases", 3, (1, 0, 2), (even,))), True)
        self.assertIs(is_unsolved_paper(flat, ("cases", 1, (1, 0, 2), (even, even))), False)
        self.assertIs(is_unsolved_paper(flat, ("cases", 2, (1, 0, 2), (even, even))), False)
        # A weight of 0, and a weighed C below 0.
        two = (2, (("ge", (0, 0), 5), ("ge", (-1, -1), 3), ("mod", 2, (0, 0), 1)))
        even = ("rest", 2, (0, 0, 1))
        self.assertIs(is_unsolved_paper(two, ("cases", 3, (0, 1, 0), (even,) * 4)), True)
        for many in range(7):
            self.assertIs(is_unsolved_paper(two, ("cases", 2, (0, 1, 0), (even,) * many)), False)
        self.assertIs(is_unsolved_paper(two, ("cases", 2, (1, 1, 0), (even,) * 9)), True)
        self.assertIs(is_unsolved_paper((1, (("ge", (-1,), -1),)), ("cases", 0, (1,), ())), False)

    def test_deep_papers(self):
        paper = ("bar", (1,))
        for _ in range(5000):
            paper = ("cases", 0, (-1,), (paper,))
        self.assertIs(is_unsolved_paper(COINS, paper), False)

    def test_wrong(self):
        refused(self, (BadEquations, ()), is_unsolved_paper, None, None)
        refused(self, (BadEquations, (1, 1)), is_unsolved_paper, (1, (("eq", (1,), 0), None)), None)
        # No paper for what has a solution; equations with very many solutions are judged, too.
        for paper in (("bar", (-1,)), ("bar", (1,)), ("rest", 2, (1,)), ("cases", 0, (-1,), (("bar", (1,)),) * 401)):
            self.assertIs(is_unsolved_paper((2, (("eq", (1, 1), -400),)), paper), False)


class Made(unittest.TestCase):
    def judge(self, equations):
        """Whether there is a paper, which is so exactly if there is no solution."""
        found = least(equations)
        if found:
            refused(self, (Unlike, found[0]), unsolved_paper, equations)
            return False
        paper = unsolved_paper(equations)
        self.assertIs(is_unsolved_paper(equations, paper), True)
        self.assertIs(is_fair(equations[0], equations[1], paper), True)
        return True

    def test_examples(self):
        for equations in (APART, ODD, COINS, STRIP, (3, (("eq", (6, 10, 15), -29),)), (1, (("ge", (0,), -1),)),
                          (2, (("mod", 6, (2, 4), 3),)), (2, (("mod", 6, (1, 1), 0), ("mod", 4, (1, 1), 1))),
                          (2, (("eq", (100, 99), -1000), ("ge", (1, 0), -11))),
                          (3, (("eq", (97, 98, 99), -1000),))):
            self.assertTrue(self.judge(equations), equations)
        for equations in ((1, ()), (3, (("eq", (6, 10, 15), -30),)), (2, (("eq", (2, 3), -2),))):
            self.assertFalse(self.judge(equations), equations)

    def test_beside_numbers_tried(self):
        rand = make_rand(4101)
        kinds = {"bar": 0, "rest": 0, "cases": 0}
        for _ in range(1500):
            equations = rand_equations(rand, 3, 4, rand.choice((2, 3, 6)), 9)
            if self.judge(equations):
                kinds[unsolved_paper(equations)[0]] += 1
                self.assertEqual(slow_solutions(equations, 7), [])
        self.assertTrue(min(kinds.values()) > 8, kinds)

    def test_more_unknowns(self):
        rand = make_rand(4102)
        found = 0
        for _ in range(250):
            count = rand.randint(4, 6)
            rows = []
            for _ in range(rand.randint(2, 5)):
                factors = tuple(rand.choice((0, 0, 0, 1, -1, 2, -2)) for _ in range(count))
                kind = rand.choice(("eq", "eq", "ge", "mod"))
                rows.append((kind,) + ((rand.randint(2, 4),) if kind == "mod" else ()) + (factors, rand.randint(-4, 4)))
            try:
                found += self.judge((count, tuple(rows)))
            except TooGreat:
                continue
        self.assertGreater(found, 80)

    def test_errors(self):
        refused(self, (BadEquations, (0,)), unsolved_paper, (0, ()))
        refused(self, (Unlike, (1, 0)), unsolved_paper, equations=(2, (("ge", (2, -3), -1),)))
        # TooGreat comes ahead, also where there is no solution.
        refused(self, (TooGreat, 400), unsolved_paper, (2, (("eq", (1, 1), -400),)))
        refused(self, (TooGreat, 400), unsolved_paper, (2, (("mod", 400, (1, 1), 0), ("ge", (0, 0), -1))))
        self.assertEqual(unsolved_paper((2, (("mod", 399, (1, 1), 0), ("ge", (0, 0), -1))))[0], "bar")
        self.assertIs(solves((1, ()), (0,)), True)


if __name__ == "__main__":
    unittest.main()
