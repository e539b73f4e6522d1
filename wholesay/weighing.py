"""Weighings of conditions: whole weights found by pivots in tables of integers, so nothing is ever rounded.

A table has a row for each unknown: its factors, weighed, and a slack of its own are together 0. The columns are the
weights, an eq standing in two of them with unlike signs as weights are from 0 on here, and behind them the slacks, so
each weighed factor is its slack's contrary and never above 0. The last row of the table tells the weighed C.
"""

from wholesay.squares import weighed


class Table:
    """Rows of integers over one common divisor; `basis` has for each row the column that it tells."""

    def __init__(self, count, rows):
        self.columns = columns_of_weights(rows)
        width = len(self.columns)
        self.rows = []
        for unknown in range(count):
            slacks = [1 if at == unknown else 0 for at in range(count)]
            self.rows.append([sign * rows[number][-2][unknown] for number, sign in self.columns] + slacks)
        self.rows.append([sign * rows[number][-1] for number, sign in self.columns] + [0 for _ in range(count)])
        self.basis = [width + at for at in range(count)]
        self.size = 1

    def pivot(self, index, column):
        """Let the row with this index tell the column from now on."""
        rows = self.rows
        if rows[index][column] < 0:
            rows[index] = [-number for number in rows[index]]
        chosen = rows[index]
        head = chosen[column]
        for at, row in enumerate(list(rows)):
            if at != index:
                rows[at] = [(head * number - row[column] * other) // self.size for number, other in zip(row, chosen)]
        self.size = head
        self.basis[index] = column

    def weights(self, worths, many):
        """The weight of each condition, the worths of the columns being told by a dict."""
        found = [0 for _ in range(many)]
        for column, (number, sign) in enumerate(self.columns):
            found[number] += sign * worths.get(column, 0)
        return tuple(found)


def columns_of_weights(rows):
    """(NUMBER, SIGN) of each column: of an eq two, of a ge one, of a mod none."""
    found = []
    for number, row in enumerate(rows):
        if row[0] != "mod":
            found.append((number, 1))
        if row[0] == "eq":
            found.append((number, -1))
    return found


def bar_weights(table, many):
    """Weights by which no weighed factor is above 0 and the weighed C is below 0; None if there are none.

    Behind this call the last row of the table has no number below 0.
    """
    while True:
        column = first_below(table.rows[-1])
        if column is None:
            return None
        index = row_to_leave(table, [row[column] > 0 for row in table.rows[:-1]])
        if index is None:
            worths = {told: -table.rows[at][column] for at, told in enumerate(table.basis)}
            worths[column] = table.size
            return table.weights(worths, many)
        table.pivot(index, column)


def row_to_leave(table, fits):
    """The index of the row that tells the least column, of those that fit; None if none does.

    As this one and the first column are taken, of several, no circle is gone round.
    """
    found = None
    for at, told in enumerate(table.basis):
        if fits[at] and (found is None or told < table.basis[found]):
            found = at
    return found


def first_below(row):
    """The first index at which a number is below 0, None if there is none."""
    for at, number in enumerate(row):
        if number < 0:
            return at
    return None


def bound_weights(table, forced, many):
    """Weights with the column `forced` above 0 and the least weighed C in proportion to it; None if there are none.

    The last row must have no number below 0; it keeps so. One of the column is taken as given: what the others must
    be is told by a column of its own, and rows in which this is below 0 are mended one by one.
    """
    table.rows = [row + [-row[forced]] for row in table.rows]
    index = row_to_leave(table, [row[-1] < 0 for row in table.rows[:-1]])
    while index is not None:
        column = mending_column(table.rows[index], table.rows[-1])
        if column is None:
            break
        table.pivot(index, column)
        index = row_to_leave(table, [row[-1] < 0 for row in table.rows[:-1]])
    worths = {told: table.rows[at][-1] for at, told in enumerate(table.basis)}
    worths[forced] = worths.get(forced, 0) + table.size
    table.rows = [row[:-1] for row in table.rows]
    return None if index is not None else table.weights(worths, many)


def mending_column(row, costs):
    """The column at which the pivot mends the row and leaves no cost below 0; None if there is none."""
    found = None
    for at in range(len(row) - 1):
        # costs[at] / -row[at] is to be the least; of equal ones the first is kept.
        if row[at] < 0 and (found is None or costs[at] * -row[found] < costs[found] * -row[at]):
            found = at
    return found


def is_weighing(rows, weights):
    """Whether a tuple of integers, one for each row, weighs no mod and no ge below 0."""
    return all([row[0] == "eq" or weight == 0 or (row[0] == "ge" and weight > 0)
                for row, weight in zip(rows, weights)])


def weighed_factors(count, rows, weights):
    """The factors of the rows, weighed and added up."""
    return [weighed(weights, [row[-2][unknown] for row in rows]) for unknown in range(count)]


def weighed_const(rows, weights):
    """The constants of the rows, weighed and added up."""
    return weighed(weights, [row[-1] for row in rows])


def bounded_cases(count, rows, table):
    """The pairs (J, WEIGHTS) of the unknowns J, and COUNT and the number of a ge, that weighings bound."""
    width = len(table.columns)
    found = [(case, bound_weights(table, width + case, len(rows))) for case in range(count)]
    for column, (number, _) in enumerate(table.columns):
        if rows[number][0] == "ge":
            found.append((count + number, bound_weights(table, column, len(rows))))
    return [(case, weights) for case, weights in found if weights is not None]


def most_of(count, rows, case, weights):
    """The greatest number that a case may have by a weighing."""
    share = weights[case - count] if case >= count else -weighed_factors(count, rows, weights)[case]
    return weighed_const(rows, weights) // share
