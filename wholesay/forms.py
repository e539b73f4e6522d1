"""Formulas in other forms: inward, as alternatives, simple."""

from math import gcd

from wholesay.errors import BadParameter, TooGreat
from wholesay.formulas import need_formula, need_plain
from wholesay.parts import ALWAYS, ATOMS, BINDERS, LISTS, MOST_PARTS, NEVER, has_form, inner, is_free, rebuilt, walked
from wholesay.terms import gathered, multiplied

CONTRARY = {"and": "or", "or": "and", "some": "all", "all": "some"}
MOST_LITERALS = 100
MOST_ALTERNATIVES = 400


def is_inward(formula):
    """Whether each not stands right ahead of a mod."""
    need_formula(formula)
    return all([part[0] != "not" or part[1][0] == "mod" for _, part in walked(formula)])


def inward(formula):
    """An inward formula that holds at the same rows."""
    need_formula(formula)
    return need_formula(led_inward(formula))


def negated(formula):
    """An inward formula that holds at the other rows."""
    need_formula(formula)
    return need_formula(contrary(formula))


def led_inward(formula):
    """As inward, but the result is not checked."""
    if formula[0] in ATOMS:
        return formula
    if formula[0] == "not":
        return contrary(formula[1])
    return rebuilt(formula, [led_inward(part) for _, part in inner(formula)])


def contrary(formula):
    """As negated, but the result is not checked."""
    kind = formula[0]
    if kind == "ge":
        return ("ge", moved(formula[1], -1, -1))
    if kind == "eq":
        return ("or", (("ge", moved(formula[1], 1, -1)), ("ge", moved(formula[1], -1, -1))))
    if kind == "mod":
        return ("not", formula)
    if kind == "not":
        return led_inward(formula[1])
    return (CONTRARY[kind],) + rebuilt(formula, [contrary(part) for _, part in inner(formula)])[1:]


def moved(term, factor, more):
    """The term times 1 or -1, and more added; TooGreat."""
    const, pairs = multiplied(term, factor)
    return gathered(const + more, pairs)


def alternatives_of(formula):
    """The list of the alternatives of a plain formula."""
    need_plain(formula)
    return alternatives(inward(formula), MOST_LITERALS, MOST_ALTERNATIVES)


def alternatives(formula, literals, most):
    """The alternatives of an inward plain formula: at most so many, of at most so many literals; else TooGreat."""
    if formula[0] == "or":
        found = {}
        for part in formula[1]:
            keep_alternatives(found, alternatives(part, literals, most), most)
        return list(found)
    if formula[0] == "and":
        found = {(): True}
        for part in formula[1]:
            found = joined(found, alternatives(part, literals, most), literals, most)
        return list(found)
    return [(formula,)]


def keep_alternatives(found, more, most):
    """Put alternatives into a dict of unlike ones, or TooGreat."""
    for each in more:
        found[each] = True
        if len(found) > most:
            raise TooGreat(most)


def joined(found, more, literals, most):
    """The dict of each alternative found so far followed by each of some more, or TooGreat."""
    out = {}
    for first in found:
        have = {literal: True for literal in first}
        for second in more:
            both = first + tuple([literal for literal in second if literal not in have])
            if len(both) > literals:
                raise TooGreat(literals)
            keep_alternatives(out, [both], most)
    return out


def is_literal(value):
    """Whether a value of any kind is an atom or a not of a mod."""
    if has_form(value) and value[0] == "not":
        return has_form(value[1]) and value[1][0] == "mod"
    return has_form(value) and value[0] in ATOMS


def from_alternatives(rows):
    """The or of the ands of the literals of each alternative."""
    if not isinstance(rows, tuple) or not all([isinstance(row, tuple) for row in rows]):
        raise BadParameter(rows)
    if not all([is_literal(literal) for row in rows for literal in row]):
        raise BadParameter(rows)
    parts = 1 + len(rows) + sum([2 if literal[0] == "not" else 1 for row in rows for literal in row])
    if parts > MOST_PARTS:
        raise TooGreat(MOST_PARTS)
    return ("or", tuple([("and", row) for row in rows]))


def simplified(formula):
    """The simple form: it holds at the same rows."""
    need_formula(formula)
    return simple(formula)


def simple(formula):
    """As simplified, unchecked."""
    kind = formula[0]
    if kind == "mod":
        return simple_mod(formula[1], formula[2])
    if kind == "eq":
        return simple_eq(formula[1])
    if kind == "ge":
        return simple_ge(formula[1])
    parts = [simple(part) for _, part in inner(formula)]
    if kind in LISTS:
        return simple_list(kind, parts)
    if kind in BINDERS:
        return rebuilt(formula, parts) if is_free(parts[0], formula[1]) else parts[0]
    return simple_not(parts[0])


def told(truth):
    """The formula that always holds, or the one that never does."""
    return ALWAYS if truth else NEVER


def common_factor(start, pairs):
    """The greatest common divisor of a number and the factors."""
    for _, factor in pairs:
        start = gcd(start, factor)
    return start


def divided(pairs, by):
    """The pairs with their factors divided, without rest."""
    return tuple([(name, factor // by) for name, factor in pairs])


def simple_mod(modulus, term):
    """The simple form of a mod."""
    const = int(term[0]) % modulus
    pairs = tuple([(name, int(factor) % modulus) for name, factor in term[1] if int(factor) % modulus != 0])
    by = common_factor(modulus, pairs)
    if int(const) % by != 0:
        return NEVER
    if modulus == by:
        return ALWAYS
    return ("mod", modulus // by, (const // by, divided(pairs, by)))


def simple_eq(term):
    """The simple form of an eq."""
    const, pairs = term
    if not pairs:
        return told(const == 0)
    by = common_factor(0, pairs)
    if int(const) % by != 0:
        return NEVER
    # Dividing by its negative turns all signs.
    if pairs[0][1] < 0:
        by = -by
    const = const // by
    pairs = divided(pairs, by)
    if const > 0 and all([factor > 0 for _, factor in pairs]):
        return NEVER
    return ("eq", (const, pairs))


def simple_ge(term):
    """The simple form of a ge."""
    const, pairs = term
    if not pairs:
        return told(const >= 0)
    by = common_factor(0, pairs)
    const = const // by
    if const >= 0 and all([factor > 0 for _, factor in pairs]):
        return ALWAYS
    if const < 0 and all([factor < 0 for _, factor in pairs]):
        return NEVER
    return ("ge", (const, divided(pairs, by)))


def simple_not(part):
    """The simple form of a not of a simple form."""
    if part == ALWAYS:
        return NEVER
    if part == NEVER:
        return ALWAYS
    if part[0] == "not":
        return part[1]
    return ("not", part)


def simple_list(kind, parts):
    """The simple form of an and or or of simple forms."""
    final = NEVER if kind == "and" else ALWAYS
    kept = []
    for part in parts:
        for each in part[1] if part[0] == kind else (part,):
            if each not in kept:
                kept.append(each)
    if final in kept:
        return final
    kept = one_of_each_ge(kind, kept)
    if is_settled_list(kind, kept):
        return final
    if len(kept) == 1:
        return kept[0]
    return (kind, tuple(kept))


def one_of_each_ge(kind, parts):
    """The formulas with one of several ge with the same pairs: the strictest in an and, the mildest in an or."""
    consts = {}
    for part in parts:
        if part[0] == "ge":
            const, pairs = part[1]
            have = consts.get(pairs, const)
            consts[pairs] = min(const, have) if kind == "and" else max(const, have)
    kept = []
    done = {}
    for part in parts:
        if part[0] != "ge":
            kept.append(part)
        elif part[1][1] not in done:
            done[part[1][1]] = True
            kept.append(("ge", (consts[part[1][1]], part[1][1])))
    return kept


def is_settled_list(kind, parts):
    """Whether two of the formulas make an and never hold, an or always."""
    if any([part[0] == "not" and part[1] in parts for part in parts]):
        return True
    consts = {part[1][1]: part[1][0] for part in parts if part[0] == "ge"}
    for pairs in consts:
        against = divided(pairs, -1)
        if against in consts:
            between = consts[pairs] + consts[against]
            if between < 0 and kind == "and" or between >= -1 and kind == "or":
                return True
    equal = [part[1][1] for part in parts if part[0] == "eq"]
    return kind == "and" and len(set(equal)) < len(equal)
