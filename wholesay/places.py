"""Places of machines: put elsewhere, put in, left out."""

from wholesay.columns import columns_in
from wholesay.errors import BadIndex, BadRow, BadWidth, NoRow, TooGreat
from wholesay.kinds import are_between, is_between, is_row, is_tuple_of
from wholesay.machines import MOST_PAIRS, MOST_STATES, need_machine
from wholesay.states import least_states
from wholesay.terms import need_many
from wholesay.working import least_left_out, left_out, spread


def placed(many, machine, places):
    """The machine of a width that reads these places as the machine reads its own."""
    need_many(many)
    need_machine(machine)
    if not is_tuple_of(places, machine[0]) or not are_between(places, 0, many - 1):
        raise BadIndex(places)
    return (many,) + spread(machine[1:], many, places)


def with_place(machine, place):
    """The machine with one place more, whose number does not matter."""
    need_machine(machine)
    many = machine[0] + 1
    if many > 4:
        raise BadWidth(many)
    if not is_between(place, 0, machine[0]):
        raise BadIndex(place)
    places = [each for each in range(many) if each != place]
    return (many,) + spread(machine[1:], many, places)


def need_left_out(machine, place):
    """Check a machine that has other places, and one of its places."""
    need_machine(machine)
    if machine[0] == 1:
        raise BadWidth(0)
    if not is_between(place, 0, machine[0] - 1):
        raise BadIndex(place)


def without(machine, place):
    """The machine that takes a row if some number put in at the place makes one that the machine takes."""
    need_left_out(machine, place)
    many = machine[0]
    made = left_out(least_states(machine[1], machine[2]), many, place, MOST_PAIRS)
    if len(made[0]) > MOST_STATES:
        raise TooGreat(MOST_STATES)
    return (many - 1,) + made


def number_at(machine, place, row):
    """The least number that, put in at the place, makes a row that the machine takes."""
    need_left_out(machine, place)
    many = machine[0]
    if not is_row(row, many - 1):
        raise BadRow(row)
    number = least_left_out(machine[1:], many, place, columns_in(row))
    if number is None:
        raise NoRow()
    return number
