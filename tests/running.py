"""Programs of loops at random, and runs gone step by step."""

from tests.helpers import term_value

DOWN = ("loop", (((("ge", (-5, ((0, 1),))),), (-3,)),))


def rand_guard(rand, many, most=2, const=4):
    found = []
    for _ in range(rand.randint(0, most)):
        pairs = tuple((name, rand.choice((-2, -1, 1, 1, 2))) for name in range(many) if rand.random() < 0.7)
        found.append((rand.choice(("ge", "ge", "ge", "eq")), (rand.randint(-const, const), pairs)))
    return tuple(found)


def rand_step(rand, many, most=2):
    return tuple(rand.randint(-most, most) for _ in range(many))


def rand_program(rand, many, deep=3):
    kind = rand.choice(("add", "loop", "loop") + (("if", "row", "row", "one") if deep > 1 else ()))
    if kind == "add":
        return (kind, rand_step(rand, many))
    if kind == "loop":
        pairs = rand.choice((1, 1, 2))
        return (kind, tuple((rand_guard(rand, many), rand_step(rand, many)) for _ in range(pairs)))
    if kind == "if":
        return (kind, rand_guard(rand, many), rand_program(rand, many, deep - 1), rand_program(rand, many, deep - 1))
    count = rand.randint(1 if kind == "one" else 0, 2)
    return (kind, tuple(rand_program(rand, many, deep - 1) for _ in range(count)))


def holds(guard, row):
    values = [(kind, term_value(term, row)) for kind, term in guard]
    return all(value == 0 if kind == "eq" else value >= 0 for kind, value in values)


def moved(row, step):
    """The row with the step added, None if a number gets below 0."""
    found = tuple(a + b for a, b in zip(row, step))
    return found if min(found) >= 0 else None


def one_round(pairs, row):
    """The row behind a whole round, None if there is none."""
    for guard, step in pairs:
        row = moved(row, step) if holds(guard, row) else None
        if row is None:
            return None
    return row


def gone_round(pairs, row, most):
    """(ROUNDS, LAST), both None if there are more rounds than `most`."""
    for rounds in range(most + 1):
        more = one_round(pairs, row)
        if more is None:
            return rounds, row
        row = more
    return None, None


def slow_runs(program, row, most=300):
    """All (CHOICES, LAST, ROUNDS) of the runs from a row, choices ascending; more than `most` rounds never end."""
    kind = program[0]
    if kind == "add":
        more = moved(row, program[1])
        return [((), row if more is None else more, ())]
    if kind == "loop":
        rounds, last = gone_round(program[1], row, most)
        return [((), last, (rounds,))]
    if kind == "if":
        return slow_runs(program[2] if holds(program[1], row) else program[3], row, most)
    if kind == "one":
        return [((at,) + choices, last, rounds) for at, part in enumerate(program[1])
                for choices, last, rounds in slow_runs(part, row, most)]
    found = [((), row, ())]
    for part in program[1]:
        more = []
        for choices, last, rounds in found:
            if last is None:
                more.append((choices, last, rounds))
            else:
                more += [(choices + c, end, rounds + r) for c, end, r in slow_runs(part, last, most)]
        found = more
    return found
