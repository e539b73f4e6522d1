"""Runs of programs of loops, and whole questions about programs, answered for all rows by machines."""

from wholesay.asking import first_row, first_unfit, fits_alike, is_none
from wholesay.errors import BadIndex, BadRow, NoRow, TooGreat
from wholesay.forms import negated
from wholesay.formulas import need_wide
from wholesay.kinds import is_between, is_integer, is_row, is_tuple_of
from wholesay.loops import need_loop, need_places, need_program, round_in, told_before, told_relation, told_unending
from wholesay.reading import machine_of
from wholesay.squares import added
from wholesay.terms import value_in
from wholesay.truth import is_taken

MOST_RUNS = 200


def is_held_at(guard, row):
    """Whether all atoms of a guard hold at a row of numbers of any size."""
    values = [(atom[0], value_in(atom[1], row)) for atom in guard]
    return all([value == 0 if kind == "eq" else value >= 0 for kind, value in values])


def rounds_of_atom(atom, step, row):
    """For how many rounds an atom holds from a row on, None if it always does."""
    value = value_in(atom[1], row)
    rate = value_in((0, atom[1][1]), step)
    if atom[0] == "eq":
        if value == 0:
            return None if rate == 0 else 1
        return 0
    if value < 0:
        return 0
    return None if rate >= 0 else value // -rate + 1


def rounds_from(many, program, row):
    """(ROUNDS, LAST) of a loop from a row, (None, None) if it never ends."""
    atoms, step = round_in(many, program)
    told = [rounds_of_atom(atom, step, row) for atom in atoms]
    # A round wants all atoms, and each holds for its first rounds alone: none comes back.
    rounds = min([number for number in told if number is not None], default=None)
    if rounds is None:
        return (None, None)
    return (rounds, added(row, step, rounds))


def row_behind_add(step, row):
    """The row with a step added; the row itself if a number would get below 0."""
    more = added(row, step, 1)
    return more if min(more) >= 0 else row


class Run:
    """A run that goes by choices: its row, None if it never ends, and the rounds of the loops that it has met."""

    def __init__(self, many, row, choices):
        self.many = many
        self.row = row
        self.choices = choices
        self.taken = 0
        self.rounds = []

    def go(self, program):
        """Go on through a program."""
        kind = program[0]
        if kind == "add":
            self.row = row_behind_add(program[1], self.row)
        elif kind == "loop":
            rounds, last = rounds_from(self.many, program, self.row)
            self.row = last
            self.rounds.append(rounds)
        elif kind == "row":
            for part in program[1]:
                if self.row is not None:
                    self.go(part)
        else:
            self.go(self.part_of(program))

    def part_of(self, program):
        """The program that is gone through in an if or one; BadIndex if no choice tells it."""
        if program[0] == "if":
            return program[2] if is_held_at(program[1], self.row) else program[3]
        parts = program[1]
        if self.taken == len(self.choices) or not is_between(self.choices[self.taken], 0, len(parts) - 1):
            raise BadIndex(self.choices)
        self.taken += 1
        return parts[self.choices[self.taken - 1]]


def run_by(many, program, row, choices):
    """The Run from a row by a tuple of choices; BadIndex if these are not just those that it meets."""
    found = Run(many, row, choices)
    found.go(program)
    if found.taken < len(choices):
        raise BadIndex(choices)
    return found


def need_start(many, program, row):
    """Check a program and a row of its width."""
    need_program(many, program)
    if not is_row(row, many):
        raise BadRow(row)


def jump(many, program, row):
    """(ROUNDS, LAST) of a loop from a row: how many rounds it goes and the row behind them, None if it never ends."""
    need_loop(many, program)
    if not is_row(row, many):
        raise BadRow(row)
    return rounds_from(many, program, row)


def run(many, program, row, choices=()):
    """(LAST, ROUNDS) of the run from a row by choices."""
    need_start(many, program, row)
    if not isinstance(choices, tuple):
        raise BadIndex(choices)
    found = run_by(many, program, row, choices)
    return (found.row, tuple(found.rounds))


def ends_from(many, program, starts):
    """The pairs (CHOICES, LAST) that come, by a program, of such pairs, in their order; TooGreat of too many."""
    if program[0] == "row":
        for part in program[1]:
            starts = ends_from(many, part, starts)
        return starts
    found = []
    for choices, row in starts:
        # Each run goes on to one end or more, so too many of them stay too many.
        found.extend([(choices, row)] if row is None else ends_of_one(many, program, choices, row))
        if len(found) > MOST_RUNS:
            raise TooGreat(MOST_RUNS)
    return found


def ends_of_one(many, program, choices, row):
    """As ends_from, for one pair whose run has not ended, and no row."""
    kind = program[0]
    if kind == "add":
        return [(choices, row_behind_add(program[1], row))]
    if kind == "loop":
        return [(choices, rounds_from(many, program, row)[1])]
    if kind == "if":
        return ends_from(many, program[2] if is_held_at(program[1], row) else program[3], [(choices, row)])
    found = []
    for at, part in enumerate(program[1]):
        found.extend(ends_from(many, part, [(choices + (at,), row)]))
    return found


def runs(many, program, row):
    """The list of the pairs (CHOICES, LAST) of all runs from a row, choices ascending."""
    need_start(many, program, row)
    return ends_from(many, program, [((), row)])


def machine_unending(many, program):
    """The machine of the rows from which some run never ends."""
    return machine_of(many, told_unending(many, program))


def ends_always(many, program):
    """Whether each run from each row ends."""
    need_program(many, program)
    return is_none(machine_unending(many, program))


def unending_row(many, program):
    """The first row from which some run never ends."""
    need_program(many, program)
    return first_row(machine_unending(many, program))


def need_claim(many, first, program, last):
    """Check a program with formulas of its first and its last rows."""
    need_places(many)
    need_wide(many, first)
    need_program(many, program)
    need_wide(many, last)


def machine_of_breaches(many, first, program, last):
    """The machine of the rows of the first formula from which some run ends in no row of the last one."""
    return machine_of(many, ("and", (first, told_before(many, program, negated(last)))))


def holds_always(many, first, program, last):
    """Whether each run that begins in a row of the first formula, and ends, ends in a row of the last one."""
    need_claim(many, first, program, last)
    return is_none(machine_of_breaches(many, first, program, last))


def breach(many, first, program, last):
    """The first row, and from it the first choices, with which a run ends in no row of the last formula."""
    need_claim(many, first, program, last)
    row = first_row(machine_of_breaches(many, first, program, last))
    machine = machine_of(many, last)
    ends = ends_from(many, program, [((), row)])
    broken = [choices for choices, end in ends if end is not None and not is_taken(machine[1:], end)]
    return (row, broken[0])


def is_breach(many, first, program, last, paper):
    """Whether a value of any kind is a row and choices with which a run breaks what is claimed."""
    need_claim(many, first, program, last)
    machines = [machine_of(many, first), machine_of(many, last)]
    if not is_tuple_of(paper, 2) or not is_tuple_of(paper[0], many) or not isinstance(paper[1], tuple):
        return False
    row, choices = paper
    if not all([is_integer(number) and number >= 0 for number in row]) or not is_taken(machines[0][1:], row):
        return False
    try:
        end = run_by(many, program, row, choices).row
    except BadIndex:
        return False
    return end is not None and not is_taken(machines[1][1:], end)


def first_between(first, second):
    """The first row that just one of two machines takes."""
    return first_unfit(first, second, fits_alike, len(first[1]) * len(second[1]))[0]


def programs_alike(many, one, other):
    """Whether two programs lead from each row to the same rows, and never end from the same rows."""
    need_program(many, one)
    need_program(many, other)
    if machine_of_relation(many, one) != machine_of_relation(many, other):
        return False
    return machine_unending(many, one) == machine_unending(many, other)


def machine_of_relation(many, program):
    """The machine of the rows of a first row and, behind it, a last one to which some run leads."""
    return machine_of(2 * many, told_relation(many, program))


def programs_apart(many, one, other):
    """("last", ROW) of just one of the relations, else ("unending", ROW) from which just one never ends."""
    need_program(many, one)
    need_program(many, other)
    row = first_between(machine_of_relation(many, one), machine_of_relation(many, other))
    if row is not None:
        return ("last", row)
    row = first_between(machine_unending(many, one), machine_unending(many, other))
    if row is None:
        raise NoRow()
    return ("unending", row)
