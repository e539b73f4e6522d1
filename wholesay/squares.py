"""Rows of few whole numbers added and weighed, and turns of independent periods told by weights."""


def added(row, other, factor):
    """The row and the factor times the other one, together."""
    return tuple([number + factor * more for number, more in zip(row, other)])


def weighed(weights, row):
    """Each weight times the number at its place, together."""
    return sum([weight * number for weight, number in zip(weights, row)])


def determinant(rows):
    """The determinant of a square list of tuples, 1 of an empty one."""
    if not rows:
        return 1
    total = 0
    for at, number in enumerate(rows[0]):
        if number != 0:
            total += number * cofactor(rows, 0, at)
    return total


def cofactor(rows, index, at):
    """The determinant without one row and one place, with its sign."""
    rest = [row[:at] + row[at + 1:] for number, row in enumerate(rows) if number != index]
    return determinant(rest) if (index + at) & 1 == 0 else -determinant(rest)


def choices_of(many, count):
    """All ascending tuples of so many places below `many`, in their order."""
    found = [()]
    for _ in range(count):
        found = [each + (place,) for each in found for place in range(each[-1] + 1 if each else 0, many)]
    return found


def square_of(many, periods):
    """(PLACES, SIZE, WEIGHTS), None of dependent periods.

    PLACES are the first ones at which the periods have a determinant that is not 0, SIZE is that without sign. By the
    weights number J a row less the base has the sum SIZE times the turns of the period J.
    """
    for places in choices_of(many, len(periods)):
        rows = [tuple([period[place] for place in places]) for period in periods]
        size = determinant(rows)
        if size != 0:
            weights = [weights_for(many, places, rows, size, index) for index in range(len(periods))]
            return (places, abs(size), weights)
    return None


def weights_for(many, places, rows, size, index):
    """The weights that tell the turns of one period, by Cramer's rule."""
    weights = [0 for _ in range(many)]
    for at, place in enumerate(places):
        weights[place] = cofactor(rows, index, at) if size > 0 else -cofactor(rows, index, at)
    return tuple(weights)


def apart_at(many, periods, square, place):
    """Weights by which each period has the sum 0: what the turns make at another place, against the number there."""
    _, size, weights = square
    found = tuple([size if each == place else 0 for each in range(many)])
    for period, each in zip(periods, weights):
        found = added(found, each, -period[place])
    return found


def turns_of(line, square, row):
    """How many times each period of an independent line is added to its base in a row; None if it lacks the row."""
    base, periods = line
    _, size, weights = square
    gap = added(row, base, -1)
    sums = [weighed(each, gap) for each in weights]
    if any([number < 0 or number % size != 0 for number in sums]):
        return None
    turned = tuple([number // size for number in sums])
    return turned if row_at(line, turned) == row else None


def row_at(line, turned):
    """The row with so many turns of each period."""
    row, periods = line
    for period, times in zip(periods, turned):
        row = added(row, period, times)
    return row
