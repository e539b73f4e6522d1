"""Rows that no relation among some rows needs: what they add to a sum can be told from the sum."""

from math import gcd


def without_head(row, other, head):
    """A row, some whole times over, less another one as often as makes its number at the head 0."""
    shared = gcd(row[head], other[head])
    times = other[head] // shared
    less = row[head] // shared
    return [times * number - less * more for number, more in zip(row, other)]


def smallest(row):
    """The row divided by what its numbers share."""
    shared = 0
    for number in row:
        shared = gcd(shared, number)
    return [number // shared for number in row]


def lone_rows(rows):
    """The indexes of the rows of which no combination of the others makes a multiple."""
    told = []
    for column in zip(*rows):
        # What the row with each index has at one place; the heads of those told so far go out of it, its own of them.
        for head, other in told:
            if column[head] != 0:
                column = without_head(column, other, head)
        if any(column):
            column = smallest(column)
            head = [number != 0 for number in column].index(True)
            told = [(at, without_head(other, column, head) if other[head] != 0 else other) for at, other in told]
            told = [(at, smallest(other)) for at, other in told] + [(head, column)]
    return [head for head, other in told if len([number for number in other if number != 0]) == 1]
