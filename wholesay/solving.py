"""Least and ground solutions of equations; nothing is checked here but how many there are."""

from math import gcd

from wholesay.conditions import level_rows
from wholesay.lattices import sifted
from wholesay.lifting import MOST_FOUND, lifted
from wholesay.merging import alike_unknowns, merged_rows, need_few_shares, shared_out
from wholesay.squares import added
from wholesay.weighing import Table, bar_weights, bounded_cases, most_of

MANY_PLACES = 3
FEW_UNKNOWNS = 5


def whole_rows(count, rows):
    """Rows that span all integer solutions of the eq and mod: (ONE, the unknowns .., the values of all conditions ..).

    ONE tells how often the constants are added: 1 in a solution, 0 in one of the homogeneous equations.
    """
    ones = [tuple([1 if spot == unit else 0 for spot in range(count + 1)]) for unit in range(count + 1)]
    found = [one + tuple([one[0] * each[-1] + unit_value(each[-2], one[1:]) for each in rows]) for one in ones]
    for at, row in enumerate(rows):
        if row[0] != "ge":
            place = count + 1 + at
            found, last = sifted(found, place)
            if row[0] == "mod" and last is not None:
                found.append(added(last, last, row[1] // gcd(row[1], last[place]) - 1))
    return found


def unit_value(factors, one):
    """The factor at the place of the 1, 0 if there is none."""
    return sum([factor for factor, number in zip(factors, one) if number == 1])


def live_places(places, units, found):
    """The places at which a row may still be below 0."""
    return [place for place in places if any([row[place] != 0 for row in units])
            or any([row[place] < 0 for row in found])]


def work_at(place, units, found):
    """How hard a place seems: where few rows are above 0, and none by much, few sums have to be looked at.

    The order of the places changes the work by far, but never what is found; this measure was the best of some tried.
    """
    step = 0
    for row in units:
        step = gcd(step, row[place])
    if step != 0:
        return len([row for row in found if row[place] % step != 0])
    above = [row[place] for row in found if row[place] > 0]
    return len(above) * max(above, default=0)


def tops_of(count, rows):
    """The greatest number at each place at which solutions are bounded, as weighings tell; ONE is told, too.

    If a bar shows that there is no solution, this is told of the homogeneous equations.
    """
    table = Table(count, rows)
    tops = {0: 1}
    if bar_weights(table, len(rows)) is not None:
        tops = {0: 0}
        rows = level_rows(rows)
        table = Table(count, rows)
    for case, weights in bounded_cases(count, rows, table):
        tops[case + 1] = most_of(count, rows, case, weights)
    return tops


def least_rows_of_lattice(rows, places, tops):
    """The rows with no number below 0 or above its top that are no sums of others; TooGreat(400)."""
    units, first = sifted(rows, 0)
    found = [first] if first is not None and first[0] <= tops[0] else []
    done = [0]
    places = live_places(places, units, found)
    while places:
        works = [work_at(place, units, found) for place in places]
        place = places[works.index(min(works))]
        units, step = sifted(units, place)
        found = lifted(found, step, done, place, tops, None if units else places)
        done = done + [place]
        places = live_places(places, units, found)
    return found


def solved(equations):
    """The pair of the least and the ground solutions, two ascending tuples; TooGreat(400)."""
    count, rows = equations
    groups = alike_unknowns(count, rows)
    least, ground = solved_by_faces(len(groups), merged_rows(rows, groups))
    need_few_shares(least + ground, groups, MOST_FOUND)
    return (shared_out(count, least, groups), shared_out(count, ground, groups))


def solved_by_faces(count, rows):
    """As solved, for unknowns that are not alike."""
    # With the last unknowns at 0 there are no other least and ground solutions: too many of them are soon found.
    for fewer in range(FEW_UNKNOWNS, count):
        solutions_of(fewer, tuple([row[:-2] + (row[-2][:fewer], row[-1]) for row in rows]))
    return solutions_of(count, rows)


def solutions_of(count, rows):
    """As solved, at once."""
    places = list(range(1, count + 1)) + [count + 1 + at for at, row in enumerate(rows) if row[0] == "ge"]
    tops = tops_of(count, rows) if len(places) >= MANY_PLACES else {0: 1}
    found = least_rows_of_lattice(whole_rows(count, rows), places, tops)
    least = tuple(sorted([row[1:count + 1] for row in found if row[0] == 1]))
    return (least, tuple(sorted([row[1:count + 1] for row in found if row[0] == 0])))
