"""Widths, names, rows and terms: their checks, and sums and products of terms."""

from wholesay.errors import BadName, BadParameter, BadRow, BadTerm, BadWidth, TooGreat
from wholesay.kinds import MOST_FACTOR, MOST_NUMBER, are_between, is_between, is_factor, is_name, is_pair_of_name
from wholesay.kinds import is_row, is_term


def need_many(value):
    """The width, or BadWidth."""
    if not is_between(value, 1, 4):
        raise BadWidth(value)
    return value


def need_name(value):
    """The name, or BadName."""
    if not is_name(value):
        raise BadName(value)
    return value


def need_row(many, row):
    """The row of this width, or BadWidth, BadRow."""
    need_many(many)
    if not is_row(row, many):
        raise BadRow(row)
    return row


def need_numbers(numbers):
    """The tuple of the numbers of the names from 0 on, or BadRow."""
    if not isinstance(numbers, tuple) or len(numbers) > 10 or not are_between(numbers, 0, MOST_NUMBER):
        raise BadRow(numbers)
    return numbers


def need_term(value):
    """The term, or BadTerm."""
    if not is_term(value):
        raise BadTerm(value)
    return value


def make_term(const, pairs=()):
    """The term with this constant and the sums of the factors of each name."""
    if not is_factor(const):
        raise BadTerm(const)
    if not isinstance(pairs, tuple) or not all([is_pair_of_name(pair) for pair in pairs]):
        raise BadTerm(pairs)
    return gathered(const, pairs)


def gathered(const, pairs):
    """The term of a constant and pairs in any order, all as great as they may be; TooGreat."""
    sums = {}
    for name, factor in pairs:
        sums[name] = sums.get(name, 0) + factor
    kept = tuple([(name, sums[name]) for name in sorted(sums) if sums[name] != 0])
    for number in [const] + [factor for _, factor in kept]:
        if abs(number) > MOST_FACTOR:
            raise TooGreat(MOST_FACTOR)
    return (const, kept)


def names_of(term):
    """The ascending tuple of the names of a term."""
    need_term(term)
    return tuple([name for name, _ in term[1]])


def factor_in(term, name):
    """The factor of the name in a term, 0 if the name does not stand there."""
    for other, factor in term[1]:
        if other == name:
            return factor
    return 0


def without_name(term, name):
    """The term without the pair of the name."""
    return (term[0], tuple([pair for pair in term[1] if pair[0] != name]))


def value_in(term, numbers):
    """The value of a term at numbers, unchecked; numbers may be a dict by names, too."""
    return term[0] + sum([factor * numbers[name] for name, factor in term[1]])


def value_at(term, numbers):
    """The value of a term, its names being these numbers."""
    need_term(term)
    need_numbers(numbers)
    if term[1] and term[1][-1][0] >= len(numbers):
        raise BadRow(numbers)
    return value_in(term, numbers)


def add_terms(one, other):
    """The sum of two terms."""
    need_term(one)
    need_term(other)
    return gathered(one[0] + other[0], one[1] + other[1])


def multiplied(term, factor):
    """The term times an integer, unchecked and of any size."""
    if factor == 0:
        return (0, ())
    return (factor * term[0], tuple([(name, factor * each) for name, each in term[1]]))


def times_term(term, factor):
    """The term times an integer."""
    need_term(term)
    if not is_factor(factor):
        raise BadParameter(factor)
    const, pairs = multiplied(term, factor)
    return gathered(const, pairs)


def put_into(term, name, other):
    """As put_into_term, unchecked."""
    factor = factor_in(term, name)
    if factor == 0:
        return term
    rest = without_name(term, name)
    const, pairs = multiplied(other, factor)
    return gathered(rest[0] + const, rest[1] + pairs)


def put_into_term(term, name, other):
    """The term with another one in the place of a name."""
    need_term(term)
    need_name(name)
    need_term(other)
    return put_into(term, name, other)
