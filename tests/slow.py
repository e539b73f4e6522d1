"""Machines for the tests, and slow ways to what the package tells of machines."""

from itertools import product


class TooMany(Exception):
    """More of something than a test wants to see."""


def slow_columns(row):
    """The columns of a row, from its digits as text."""
    digits = [bin(number)[2:][::-1] for number in row]
    many = max([number.bit_length() for number in row], default=0)
    return [sum(2 ** at for at, each in enumerate(digits) if each[k:k + 1] == "1") for k in range(many)]


def slow_takes(machine, row):
    state = 0
    for column in slow_columns(row):
        state = machine[1][state][column]
    return machine[2][state]


def small_rows(many, most):
    return list(product(range(most + 1), repeat=many))


def reach(first, follow, most=4000):
    """All that is come to, in the order in which it is, and the dict of what each leads to."""
    found, leads, seen = [first], {}, {first}
    for each in found:
        leads[each] = follow(each)
        for to in leads[each]:
            if to not in seen:
                seen.add(to)
                found.append(to)
        if len(found) > most:
            raise TooMany()
    return found, leads


def slow_least(steps, ends):
    """The rows and ends of the least machine: ever finer classes of the states, then numbered anew."""
    found, _ = reach(0, lambda state: list(steps[state]))
    kinds = {state: ends[state] for state in found}
    while True:
        marks = {state: (kinds[state], tuple(kinds[to] for to in steps[state])) for state in found}
        numbers = {mark: at for at, mark in enumerate(dict.fromkeys(marks[state] for state in found))}
        finer = {state: numbers[marks[state]] for state in found}
        if len(set(finer.values())) == len(set(kinds.values())):
            break
        kinds = finer
    one = {finer[state]: state for state in found}
    order, _ = reach(finer[0], lambda kind: [finer[to] for to in steps[one[kind]]])
    at = {kind: number for number, kind in enumerate(order)}
    return (tuple(tuple(at[finer[to]] for to in steps[one[kind]]) for kind in order),
            tuple(ends[one[kind]] for kind in order))


def built(first, follow, end, counts=None, most=4000):
    """The least rows and ends of what is come to; None is nowhere, which is no end and is not counted."""
    found, leads = reach(first, lambda each: follow(each), most)
    if counts is not None:
        counts.append(len([each for each in found if each is not None]))
    at = {each: number for number, each in enumerate(found)}
    return slow_least([[at[to] for to in leads[each]] for each in found], [end(each) for each in found])


def slow_worked(formula, counts, most=1000):
    """The names, rows and ends of a formula, by point 29; how many each step comes to goes into counts."""
    kind = formula[0]
    if kind in ("ge", "eq", "mod"):
        return slow_atom(formula, counts, most)
    if kind == "not":
        names, steps, ends = slow_worked(formula[1], counts, most)
        return names, steps, tuple(not end for end in ends)
    if kind in ("and", "or"):
        done = None
        for part in [slow_worked(part, counts, most) for part in formula[1]]:
            done = part if done is None else slow_pair(kind, done, part, counts, most)
        return done or ((), ((0,),), (kind == "and",))
    if kind == "all":
        return slow_worked(("not", ("some", formula[1], ("not", formula[2]))), counts, most)
    names, steps, ends = slow_worked(formula[2], counts, most)
    if formula[1] not in names:
        return names, steps, ends
    return slow_some(formula[1], names, steps, ends, counts, most)


def slow_atom(formula, counts, most):
    const, pairs = formula[-1]
    names = tuple(name for name, _ in pairs)
    sums = [sum(factor for at, (_, factor) in enumerate(pairs) if column >> at & 1)
            for column in range(2 ** len(names))]

    def follow(carry):
        return [None if carry is None else slow_carry(formula[0], carry, each) for each in sums]

    if formula[0] == "mod":
        made = built((const % formula[1], formula[1]), follow, lambda each: each is not None and each[0] == 0,
                     counts, most)
    elif formula[0] == "eq":
        made = built(const, follow, lambda each: each == 0, counts, most)
    else:
        made = built(const, follow, lambda each: each >= 0, counts, most)
    return (names,) + made


def slow_carry(kind, carry, more):
    if kind == "ge":
        return (carry + more) // 2
    if kind == "eq":
        return None if (carry + more) % 2 else (carry + more) // 2
    rest, modulus = carry
    if modulus % 2:
        return ((rest + more) * ((modulus + 1) // 2) % modulus, modulus)
    return None if (rest + more) % 2 else ((rest + more) // 2 % (modulus // 2), modulus // 2)


def slow_pair(kind, one, other, counts, most):
    names = tuple(sorted(set(one[0]) | set(other[0])))

    def column_for(column, some):
        return sum(2 ** at for at, name in enumerate(some) if column >> names.index(name) & 1)

    def follow(pair):
        return [(one[1][pair[0]][column_for(column, one[0])], other[1][pair[1]][column_for(column, other[0])])
                for column in range(2 ** len(names))]

    truth = all if kind == "and" else any
    return (names,) + built((0, 0), follow, lambda pair: truth((one[2][pair[0]], other[2][pair[1]])), counts, most)


def slow_some(name, names, steps, ends, counts, most):
    place = names.index(name)
    many = len(names)

    def whole(column, digit):
        text = [column >> at & 1 for at in range(many - 1)]
        text.insert(place, digit)
        return sum(2 ** at for at, each in enumerate(text) if each)

    def follow(states):
        return [frozenset(steps[state][whole(column, digit)] for state in states for digit in (0, 1))
                for column in range(2 ** (many - 1))]

    def end(states):
        found, _ = reach(states, lambda some: [follow(some)[0]])
        return any(ends[state] for some in found for state in some)

    return (names[:place] + names[place + 1:],) + built(frozenset([0]), follow, end, counts, most)


def slow_machine(many, formula, counts=None, most=1000):
    """The least machine of a formula of the width, by point 29 without its limits."""
    names, steps, ends = slow_worked(formula, [] if counts is None else counts, most)
    columns = [sum(2 ** at for at, name in enumerate(names) if column >> name & 1) for column in range(2 ** many)]
    return (many,) + slow_least([[row[column] for column in columns] for row in steps], ends)


def rand_machine(rand, many, states):
    """A settled machine at random, seldom a least one."""
    ends = [rand.random() < 0.4 for _ in range(states)]
    steps = []
    for state in range(states):
        row = [rand.randrange(states) for _ in range(2 ** many)]
        row[0] = rand.choice([to for to in range(states) if ends[to] is ends[state]])
        steps.append(tuple(row))
    return (many, tuple(steps), tuple(ends))


def turning(many, places, length, traps=()):
    """A least machine that counts columns with just these places, round and round; other columns change nothing.

    The columns of `traps` lead to a last state for good, which is no end.
    """
    steps = []
    for state in range(length):
        row = [state] * 2 ** many
        for place in places:
            row[2 ** place] = (state + 1) % length
        for column in traps:
            row[column] = length
        steps.append(tuple(row))
    if traps:
        steps.append((length,) * 2 ** many)
    return (many, tuple(steps), tuple(state == 1 for state in range(len(steps))))
