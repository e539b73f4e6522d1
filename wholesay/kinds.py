"""What kind of value something is; these look at values of any kind and raise nothing."""

MOST_NUMBER = 10 ** 60
MOST_FACTOR = 10 ** 9


def is_integer(value):
    """Whether it is an int that is no bool."""
    return isinstance(value, int) and not isinstance(value, bool)


def is_between(value, low, high):
    """Whether it is an integer from low to high."""
    return is_integer(value) and low <= value <= high


def is_tuple_of(value, many):
    """Whether it is a tuple of that many things."""
    return isinstance(value, tuple) and len(value) == many


def are_between(value, low, high):
    """Whether it is a tuple of integers from low to high."""
    return isinstance(value, tuple) and all([is_between(item, low, high) for item in value])


def is_row(value, many):
    """Whether it is a tuple of that many numbers."""
    return is_tuple_of(value, many) and are_between(value, 0, MOST_NUMBER)


def is_name(value):
    """Whether it is a name."""
    return is_between(value, 0, 9)


def is_factor(value):
    """Whether it is an integer that may be a constant or, 0 apart, a factor."""
    return is_between(value, -MOST_FACTOR, MOST_FACTOR)


def is_pair_of_name(value):
    """Whether it is a pair of a name and a factor, 0 let."""
    return is_tuple_of(value, 2) and is_name(value[0]) and is_factor(value[1])


def is_term(value):
    """Whether it is a term."""
    if not is_tuple_of(value, 2) or not is_factor(value[0]) or not isinstance(value[1], tuple):
        return False
    last = -1
    for pair in value[1]:
        if not is_pair_of_name(pair) or pair[0] <= last or pair[1] == 0:
            return False
        last = pair[0]
    return True
