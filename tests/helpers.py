"""What the tests share: errors asked for with their arguments, formulas at random, and slow ways to the same answers."""

import random
from math import gcd

STRANGE = (None, True, False, "0", b"0", 1.0, [], {}, (), (1,), (0, 0, 0, 0, 0, 0), object(), -1, 10 ** 70, "some")



class Touchy:
    """A value that bears no comparison."""

    __hash__ = None

    def __eq__(self, other):
        raise AssertionError("compared")


NUMBER = 10 ** 60
BILLION = 10 ** 9
ALWAYS = ("and", ())
NEVER = ("or", ())


def ge(const, *pairs):
    return ("ge", (const, pairs))


def eq(const, *pairs):
    return ("eq", (const, pairs))


def mod(modulus, const, *pairs):
    return ("mod", modulus, (const, pairs))


def nots(many, formula):
    for _ in range(many):
        formula = ("not", formula)
    return formula


def somes(names, formula):
    """The names from the inside out."""
    for name in names:
        formula = ("some", name, formula)
    return formula


def same_value(one, other):
    """Equal, and True is not 1."""
    if isinstance(one, tuple) and isinstance(other, tuple):
        return len(one) == len(other) and all(same_value(a, b) for a, b in zip(one, other))
    return type(one) is type(other) and one == other


def refused(test, error, call, *args, **named):
    """The call raises this very error with these arguments: refused(t, (BadWidth, 5), f, ..)."""
    kind, *told = error
    with test.assertRaises(kind) as caught:
        call(*args, **named)
    test.assertIs(type(caught.exception), kind)
    test.assertEqual(len(vars(caught.exception)), len(told))
    for have, want in zip(vars(caught.exception).values(), told):
        # What was passed comes back itself, so values that are equal to nothing may be asked for, too.
        test.assertTrue(have is want or same_value(have, want), (error, have))


def refuses_strange(test, kind, call, before=(), behind=(), let=()):
    """Strange values of one parameter are refused, each with itself."""
    for value in STRANGE:
        if not any(same_value(value, each) for each in let):
            refused(test, (kind, value), call, *before, value, *behind)


def rand_term(rand, names, const=6, factor=3):
    pairs = [(name, rand.randint(-factor, factor)) for name in sorted(names) if rand.random() < 0.7]
    return (rand.randint(-const, const), tuple((name, each) for name, each in pairs if each != 0))


def rand_atom(rand, names, const=6, factor=3):
    kind = rand.choice(("ge", "eq", "mod"))
    if kind == "mod":
        return (kind, rand.randint(2, 4), rand_term(rand, names, const, factor))
    return (kind, rand_term(rand, names, const, factor))


def rand_formula(rand, deep, names, const=6, factor=3, binders=()):
    """A formula at random, at most so deep; somes and alls bind the names of `binders`."""
    if deep <= 1 or rand.random() < 0.25:
        return rand_atom(rand, names, const, factor)
    kind = rand.choice(("not", "and", "or") + (("some", "all") if binders else ()))
    if kind == "not":
        return (kind, rand_formula(rand, deep - 1, names, const, factor, binders))
    if kind in ("and", "or"):
        many = rand.randint(0, 3)
        return (kind, tuple(rand_formula(rand, deep - 1, names, const, factor, binders) for _ in range(many)))
    return (kind, rand.choice(binders), rand_formula(rand, deep - 1, names, const, factor, binders))


def term_value(term, numbers):
    total = term[0]
    for name, factor in term[1]:
        total += factor * numbers[name]
    return total


def tried(formula, numbers, most=40):
    """Whether a formula holds, the numbers of somes and alls tried from 0 to most; numbers is a dict by names."""
    kind = formula[0]
    if kind == "ge":
        return term_value(formula[1], numbers) >= 0
    if kind == "eq":
        return term_value(formula[1], numbers) == 0
    if kind == "mod":
        return term_value(formula[2], numbers) % formula[1] == 0
    if kind == "not":
        return not tried(formula[1], numbers, most)
    if kind == "and":
        return all(tried(each, numbers, most) for each in formula[1])
    if kind == "or":
        return any(tried(each, numbers, most) for each in formula[1])
    found = (tried(formula[2], {**numbers, formula[1]: each}, most) for each in range(most + 1))
    return any(found) if kind == "some" else all(found)


def by_names(row):
    return dict(enumerate(row))


def atoms_of(formula):
    kind = formula[0]
    if kind in ("ge", "eq", "mod"):
        return [formula]
    if kind in ("and", "or"):
        return [atom for each in formula[1] for atom in atoms_of(each)]
    return atoms_of(formula[-1])


def lcm_of(numbers):
    found = 1
    for each in numbers:
        found = found * each // gcd(found, each)
    return found


def telling_numbers(formula, name, numbers):
    """Numbers for the name among which a plain formula takes each truth that it takes at all, the great ones last.

    The truth only changes beside the borders of ge and eq, and goes round with the moduli between them.
    """
    atoms = [(atom, dict(atom[-1][1]).get(name, 0)) for atom in atoms_of(formula)]
    # Moduli of atoms without the name would only make the turn longer than any memory.
    turn = lcm_of([atom[1] for atom, factor in atoms if atom[0] == "mod" and factor != 0])
    found = set(range(2 * turn + 2))
    top = 0
    for atom, factor in atoms:
        if atom[0] != "mod" and factor != 0:
            at = abs(term_value(atom[-1], {**numbers, name: 0})) // abs(factor)
            top = max(top, at + 1)
            found |= set(range(max(0, at - 2 * turn - 2), at + 2 * turn + 3))
    far = list(range(top + 2, top + 2 + turn))
    return sorted(found), far


def quantified(formula, name, numbers):
    """Whether a plain formula holds with some, each, infinitely many, all but finitely many numbers for the name."""
    near, far = telling_numbers(formula, name, numbers)
    near = [tried(formula, {**numbers, name: each}) for each in near]
    far = [tried(formula, {**numbers, name: each}) for each in far]
    return [any(near + far), all(near + far), any(far), all(far)]


def make_rand(seed):
    return random.Random(seed)
