"""How formulas are built: their forms, the formulas in them, their free names; nothing here checks a formula."""

from wholesay.kinds import is_between, is_name, is_term

ATOMS = ("ge", "eq", "mod")
LISTS = ("and", "or")
BINDERS = ("some", "all")
MOST_MODULUS = 10 ** 6
MOST_DEEP = 20
MOST_PARTS = 2000
ALWAYS = ("and", ())
NEVER = ("or", ())


def has_form(value):
    """Whether a value of any kind has one of the eight forms, whatever the formulas in it are."""
    if not isinstance(value, tuple) or len(value) not in (2, 3) or not isinstance(value[0], str):
        return False
    kind = value[0]
    if len(value) == 2:
        if kind in ("ge", "eq"):
            return is_term(value[1])
        return kind == "not" or kind in LISTS and isinstance(value[1], tuple)
    if kind == "mod":
        return is_between(value[1], 2, MOST_MODULUS) and is_term(value[2])
    return kind in BINDERS and is_name(value[1])


def inner(formula):
    """The list of the pairs (the path within it, formula) of the formulas that stand right in a formula."""
    kind = formula[0]
    if kind in LISTS:
        return [((1, at), part) for at, part in enumerate(formula[1])]
    if kind in ATOMS:
        return []
    return [((len(formula) - 1,), formula[-1])]


def walked(formula):
    """The list of all pairs (path, part), a whole ahead of its parts, from the left."""
    found = []
    waiting = [((), formula)]
    while waiting:
        path, part = waiting.pop()
        found.append((path, part))
        for steps, each in reversed(inner(part)):
            waiting.append((path + steps, each))
    return found


def measured(formula):
    """The pair (how many parts, how deep)."""
    sizes = [measured(part) for _, part in inner(formula)]
    return (1 + sum([size[0] for size in sizes]), 1 + max([size[1] for size in sizes], default=0))


def count_parts(formula):
    """How many parts a formula has."""
    return measured(formula)[0]


def first_binder(formula):
    """The path of the first some or all of the walk, None if there is none."""
    for path, part in walked(formula):
        if part[0] in BINDERS:
            return path
    return None


def free_mask(formula):
    """The sum of 2 ** NAME over the free names: a set of names that can be passed on."""
    kind = formula[0]
    mask = 0
    if kind in ATOMS:
        for name, _ in formula[-1][1]:
            mask |= 1 << name
        return mask
    for _, part in inner(formula):
        mask |= free_mask(part)
    if kind in BINDERS and mask >> formula[1] & 1 == 1:
        mask -= 1 << formula[1]
    return mask


def is_free(formula, name):
    """Whether the name is free in the formula."""
    return free_mask(formula) >> name & 1 == 1


def names_in(mask):
    """The ascending tuple of the names of a mask."""
    return tuple([name for name in range(10) if mask >> name & 1 == 1])


def free_in(formula):
    """The ascending tuple of the free names."""
    return names_in(free_mask(formula))


def rebuilt(formula, parts):
    """The formula with these formulas, a list, in the places of those that stand right in it."""
    if formula[0] in LISTS:
        return (formula[0], tuple(parts))
    return formula[:-1] + (parts[0],)
