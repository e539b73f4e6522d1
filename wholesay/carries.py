"""Machines of atoms: what they carry from column to column."""

from wholesay.states import explored, least_states


def column_sums(pairs):
    """For each column over the names of pairs the sum of the factors of those whose digit is 1."""
    sums = [0]
    for _, factor in pairs:
        sums = sums + [each + factor for each in sums]
    return sums


def atom_machine(atom, most):
    """The least machine (STEPS, ENDS) of an atom, over its names; TooGreat(most) of its carries."""
    const, pairs = atom[-1]
    sums = column_sums(pairs)
    if atom[0] == "mod":
        found, steps = explored((int(const) % atom[1], atom[1]), lambda carry: mod_carries(carry, sums), most)
        return least_states(steps, [carry is not None and carry[0] == 0 for carry in found])
    if atom[0] == "eq":
        found, steps = explored(const, lambda carry: eq_carries(carry, sums), most)
        return least_states(steps, [carry == 0 for carry in found])
    found, steps = explored(const, lambda carry: [(carry + each) // 2 for each in sums], most)
    return least_states(steps, [carry >= 0 for carry in found])


def eq_carries(carry, sums):
    """What each column leads to in an eq, None where it cannot hold any more."""
    if carry is None:
        return [None for _ in sums]
    return [(carry + each) // 2 if (carry + each) & 1 == 0 else None for each in sums]


def mod_carries(carry, sums):
    """What each column leads to in a mod, None where it cannot hold any more."""
    if carry is None:
        return [None for _ in sums]
    const, modulus = carry
    if modulus & 1 == 1:
        half = (modulus + 1) // 2
        return [((const + each) * half % modulus, modulus) for each in sums]
    less = modulus // 2
    return [((const + each) // 2 % less, less) if (const + each) & 1 == 0 else None for each in sums]
