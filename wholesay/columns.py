"""Columns: the digits in base two of several numbers, and columns of some places beside those of others."""


def columns_in(numbers):
    """The list of the columns of numbers, as many as the greatest has digits."""
    many = max([number.bit_length() for number in numbers], default=0)
    return [column_at(numbers, at) for at in range(many)]


def column_at(numbers, at):
    """The column of the digits with this number."""
    return sum([(number >> at & 1) << place for place, number in enumerate(numbers)])


def picked(many, places):
    """For each column of `many` places the column of these of them, in their order."""
    return [sum([(column >> place & 1) << at for at, place in enumerate(places)]) for column in range(1 << many)]


def opened(many, place):
    """For each column of the other ones of `many` places the pair of columns with the digits 0 and 1 at the place."""
    found = []
    bit = 1 << place
    for column in range(1 << (many - 1)):
        low = column & (bit - 1)
        zero = low + 2 * (column - low)
        found.append((zero, zero + bit))
    return found
