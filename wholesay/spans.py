"""Which rows of integers are combinations of others: sums of these, each times a fraction."""

from math import gcd


class Span:
    """Rows put in, each without what the earlier ones make of it; a row of these tells its own first place alone."""

    def __init__(self):
        self.heads = []
        self.rows = []

    def rest(self, row):
        """What is left of a row, some whole times over, without the rows that were put in."""
        row = list(row)
        for head, other in zip(self.heads, self.rows):
            if row[head] != 0:
                share = gcd(row[head], other[head])
                times = other[head] // share
                less = row[head] // share
                row = [times * number - less * more for number, more in zip(row, other)]
        return row

    def holds(self, row):
        """Whether a row is a combination of those that were put in."""
        return not any(self.rest(row))

    def put(self, row):
        """Put a row in; whether it was no combination of the others."""
        left = self.rest(row)
        if not any(left):
            return False
        shared = 0
        for number in left:
            shared = gcd(shared, number)
        left = [number // shared for number in left]
        self.heads.append([number != 0 for number in left].index(True))
        self.rows.append(left)
        return True
