"""Weights of eq and mod that leave a rest, so that no integers hold them all."""

from math import gcd

from wholesay.lattices import sifted
from wholesay.squares import added, weighed


def rest_weights(count, rows):
    """(K, WEIGHTS) as in a paper of the kind rest; None if some integers hold all eq and mod.

    What the unknowns and the moduli add to the values spans a lattice. Row by row one of its members, the step, is
    singled out that alone counts there, so what is left of the constants can be brought to 0 in one way at most. The
    eq must not be at odds over fractions (a bar tells that): so where there is no step nothing is left.
    """
    numbers = [number for number, row in enumerate(rows) if row[0] != "ge"]
    spans = spans_of(count, rows, numbers)
    left = tuple([rows[number][-1] for number in numbers])
    steps = []
    for at in range(len(numbers)):
        spans, step = sifted(spans, at)
        if step is not None:
            if left[at] % step[at] != 0:
                modulus, weights = rest_at(steps, at, step)
                told = [0 for _ in rows]
                for number, weight in zip(numbers, weights):
                    told[number] = weight
                return (modulus, tuple(told))
            left = added(left, step, -(left[at] // step[at]))
            steps.append((at, step))
    return None


def spans_of(count, rows, numbers):
    """What each unknown, and the modulus of each mod, adds to the values of the rows with these numbers."""
    found = [tuple([rows[each][-2][unknown] for each in numbers]) for unknown in range(count)]
    for number in numbers:
        if rows[number][0] == "mod":
            found.append(tuple([rows[number][1] if each == number else 0 for each in numbers]))
    return found


def rest_at(steps, at, step):
    """(K, WEIGHTS) where a step leaves a rest, by weights that make nothing of the steps ahead of it."""
    weights = [1 if place == at else 0 for place in range(len(step))]
    modulus = step[at]
    for place, each in reversed(steps):
        made = weighed(weights, each)
        weights = [each[place] * weight for weight in weights]
        weights[place] = -made
        modulus = modulus * each[place]
    shared = modulus
    for weight in weights:
        shared = gcd(shared, weight)
    return (modulus // shared, [weight // shared for weight in weights])
