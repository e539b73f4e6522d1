"""Sets and equations at random, and slow ways to what they tell: all rows, all numbers tried."""

from itertools import product


def rand_line(rand, many, most=4, periods=4):
    rows = {tuple(rand.randint(0, most) for _ in range(many)) for _ in range(rand.randint(0, periods))}
    return (tuple(rand.randint(0, most) for _ in range(many)), tuple(sorted(row for row in rows if any(row))))


def rand_set(rand, many, lines=3, most=4, periods=4):
    return (many, tuple(sorted({rand_line(rand, many, most, periods) for _ in range(rand.randint(0, lines))})))


def plus(row, other, factor=1):
    return tuple(one + factor * two for one, two in zip(row, other))


def slow_rows(value, top):
    """All rows of a set with no number above `top`, by adding periods as long as they fit."""
    found = set()
    for base, periods in value[1]:
        open_rows = [base]
        seen = {base}
        while open_rows:
            row = open_rows.pop()
            if max(row) <= top:
                found.add(row)
                for period in periods:
                    more = plus(row, period)
                    if more not in seen:
                        seen.add(more)
                        open_rows.append(more)
    return found


def box(many, top):
    return list(product(range(top + 1), repeat=many))


def rand_condition(rand, count, factor=3, const=6):
    kind = rand.choice(("eq", "ge", "ge", "mod"))
    factors = tuple(rand.randint(-factor, factor) for _ in range(count))
    if kind == "mod":
        return (kind, rand.randint(2, 5), factors, rand.randint(-const, const))
    return (kind, factors, rand.randint(-const, const))


def rand_equations(rand, most=3, rows=3, factor=3, const=6):
    count = rand.randint(1, most)
    return (count, tuple(rand_condition(rand, count, factor, const) for _ in range(rand.randint(0, rows))))


def worth(condition, numbers, const=True):
    return (condition[-1] if const else 0) + sum(a * b for a, b in zip(condition[-2], numbers))


def fits(condition, numbers, const=True):
    value = worth(condition, numbers, const)
    if condition[0] == "mod":
        return value % condition[1] == 0
    return value == 0 if condition[0] == "eq" else value >= 0


def slow_solutions(equations, top, const=True):
    count, rows = equations
    return [row for row in box(count, top) if all(fits(each, row, const) for each in rows)]


def slow_least(equations, top):
    """(LEAST, GROUND) with no number above `top`, by the words of the document."""
    level = [row for row in slow_solutions(equations, top, False) if any(row)]
    known = set(level)
    sums = {plus(one, two) for one in level for two in level}
    ground = [row for row in level if row not in sums]
    solutions = slow_solutions(equations, top)
    least = []
    for row in solutions:
        # A homogeneous solution taken off leaves no number below 0, so what is left must be tried for the conditions.
        parts = (plus(row, step, -1) for step in known if all(a <= b for a, b in zip(step, row)))
        if not any(all(fits(each, part) for each in equations[1]) for part in parts):
            least.append(row)
    return (tuple(least), tuple(ground))
