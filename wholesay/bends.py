"""Least numbers for the second of two names by the first one: where the candidates for them cross, and their lines."""

from math import gcd

from wholesay.formulas import holds
from wholesay.parts import walked
from wholesay.takeout import candidates
from wholesay.terms import factor_in


class Curve:
    """The least numbers f(x) with which a plain formula of the names 0 and 1 holds at (x, f(x)).

    Between the places at which candidates, or a candidate and the border of an atom, cross, the candidate that is the
    least number is the same for all x with the same remainder by the turn.
    """

    def __init__(self, formula, turn):
        self.plain = formula
        self.turn = turn
        # (B, C, D) stands for (B * x + C) / D.
        self.slopes = [(factor_in(term, 0), term[0], divisor) for term, divisor in candidates(formula, 1)]
        self.starts = starts_of(self.slopes, formula)

    def least(self, number):
        """(f(x), the line by which it is told) at a number x; None if there is no f(x)."""
        found = {}
        for slope, const, divisor in self.slopes:
            value = slope * number + const
            if value >= 0 and value % divisor == 0:
                found[value // divisor] = (slope, const, divisor)
        for value in sorted(found):
            if holds(self.plain, (number, value)):
                return (value, reduced(found[value]))
        return None

    def f_at(self, number):
        """f(x), None if there is none."""
        found = self.least(number)
        return None if found is None else found[0]

    def far_lines(self):
        """The list, as long as the least period, of the lines behind all crossings, None where there is no f(x)."""
        found = [None for _ in range(self.turn)]
        for number in range(self.starts[-1], self.starts[-1] + self.turn):
            told = self.least(number)
            found[number % self.turn] = None if told is None else told[1]
        for length in range(1, self.turn):
            if self.turn % length == 0 and all([found[at] == found[at % length] for at in range(self.turn)]):
                return found[:length]
        return found

    def fits(self, lines, number):
        """Whether the lines tell f(x)."""
        line = lines[number % len(lines)]
        value = self.f_at(number)
        if line is None or value is None:
            return line is None and value is None
        return line[0] * number + line[1] == line[2] * value

    def first_fit(self, lines):
        """The least number from which on the lines tell f(x)."""
        high = self.starts[-1]
        for low in reversed(self.starts[:-1]):
            # As many numbers as the turn tell of all down to the crossing.
            for number in range(high - 1, max(low, high - self.turn) - 1, -1):
                if not self.fits(lines, number):
                    return number + 1
            high = low
        return 0

    def told(self):
        """(START, PERIOD, FIRSTS, LINES)."""
        lines = self.far_lines()
        start = self.first_fit(lines)
        return (start, len(lines), tuple([self.f_at(number) for number in range(start)]), tuple(lines))


def reduced(line):
    """The line without a common divisor."""
    by = gcd(gcd(line[0], line[1]), line[2])
    return (line[0] // by, line[1] // by, line[2] // by)


def starts_of(slopes, formula):
    """The ascending list of the numbers from 0 on at which a piece without crossings begins."""
    crossings = {}
    for at, (slope, const, divisor) in enumerate(slopes):
        crossings[(slope, const)] = True
        for other_slope, other_const, other_divisor in slopes[:at]:
            crossings[(other_divisor * slope - divisor * other_slope,
                       other_divisor * const - divisor * other_const)] = True
    # The border of an atom with the second name is a candidate, too.
    for _, atom in walked(formula):
        if atom[0] in ("ge", "eq") and factor_in(atom[1], 1) == 0:
            crossings[(factor_in(atom[1], 0), atom[1][0])] = True
    starts = {0: True}
    for slope, const in crossings:
        if slope != 0:
            for number in (-(const // slope), -const // slope + 1):
                starts[max(0, number)] = True
    return sorted(starts)
