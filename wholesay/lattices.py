"""Rows of integers that span others by sums and differences."""

from wholesay.squares import added


def sifted(rows, place):
    """(REST, ONE) that span what the rows span: 0 at the place in REST, above 0 in the one row ONE, or None."""
    rest = [row for row in rows if row[place] == 0]
    live = [row for row in rows if row[place] != 0]
    while len(live) > 1:
        pivot = live[least_at(live, place)]
        kept = []
        for row in live:
            if row != pivot:
                row = added(row, pivot, -(row[place] // pivot[place]))
                if row[place] != 0:
                    kept.append(row)
                else:
                    rest.append(row)
        live = kept + [pivot]
    if not live:
        return (rest, None)
    return (rest, live[0] if live[0][place] > 0 else tuple([-number for number in live[0]]))


def least_at(rows, place):
    """The index of the first row with the least number, without its sign, at the place."""
    found = 0
    for at, row in enumerate(rows):
        if abs(row[place]) < abs(rows[found][place]):
            found = at
    return found
