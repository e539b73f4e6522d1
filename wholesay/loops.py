"""Programs of loops: their checks, what a round wants and adds, and formulas that tell of all their runs."""

from wholesay.errors import BadProgram, BadWidth, TooGreat
from wholesay.forms import negated, simplified
from wholesay.formulas import need_formula, need_wide, put_in, trade_names
from wholesay.kinds import are_between, is_between, is_term, is_tuple_of
from wholesay.parts import NEVER, is_free
from wholesay.squares import added
from wholesay.terms import value_in

MOST_PLACES = 2
MOST_ATOMS = 4
MOST_IN_GUARD = 10 ** 5
MOST_STEP = 100
MOST_ROUND = 3
MOST_LEVELS = 6
MOST_PROGRAMS = 30
MOST_NAMES = 10


def need_places(many):
    """BadWidth of what programs do not work on."""
    if not is_between(many, 1, MOST_PLACES):
        raise BadWidth(many)


def is_guard_atom(value, many):
    """Whether it is an atom that may stand in a guard."""
    if not is_tuple_of(value, 2) or not isinstance(value[0], str) or value[0] not in ("ge", "eq"):
        return False
    if not is_term(value[1]):
        return False
    const, pairs = value[1]
    return all([name < many for name, _ in pairs]) and all([
        abs(number) <= MOST_IN_GUARD for number in [const] + [factor for _, factor in pairs]])


def is_guard(value, many):
    """Whether it is a guard."""
    if not isinstance(value, tuple) or len(value) > MOST_ATOMS:
        return False
    return all([is_guard_atom(atom, many) for atom in value])


def is_step(value, many):
    """Whether it is a step."""
    return is_tuple_of(value, many) and are_between(value, -MOST_STEP, MOST_STEP)


def is_round(value, many):
    """Whether it is the ROUND of a loop."""
    if not isinstance(value, tuple) or not 1 <= len(value) <= MOST_ROUND:
        return False
    return all([is_tuple_of(pair, 2) and is_guard(pair[0], many) and is_step(pair[1], many) for pair in value])


def is_program(value, many):
    """Whether a value of any kind has one of the forms, whatever the programs in it are."""
    if not isinstance(value, tuple) or not value or not isinstance(value[0], str):
        return False
    if value[0] == "if":
        return len(value) == 4 and is_guard(value[1], many)
    if len(value) != 2:
        return False
    if value[0] == "add":
        return is_step(value[1], many)
    if value[0] == "loop":
        return is_round(value[1], many)
    return value[0] in ("row", "one") and isinstance(value[1], tuple) and (value[0] == "row" or len(value[1]) > 0)


def programs_in(program):
    """The list of the pairs (the path within it, program) of the programs that stand right in a program."""
    if program[0] == "if":
        return [((2,), program[2]), ((3,), program[3])]
    if program[0] in ("row", "one"):
        # No walk gets behind the first ones of a very long tuple.
        return [((1, at), part) for at, part in enumerate(program[1][:MOST_PROGRAMS])]
    return []


def need_program(many, value):
    """The program, or BadWidth, TooGreat, BadProgram of the first thing of the walk that is not as told."""
    need_places(many)
    waiting = [((), value, 1)]
    met = 0
    while waiting:
        path, part, level = waiting.pop()
        met += 1
        if level > MOST_LEVELS:
            raise TooGreat(MOST_LEVELS)
        if met > MOST_PROGRAMS:
            raise TooGreat(MOST_PROGRAMS)
        if not is_program(part, many):
            raise BadProgram(path)
        for steps, each in reversed(programs_in(part)):
            waiting.append((path + steps, each, level + 1))
    return value


def need_loop(many, program):
    """Check a program that must be a loop."""
    need_program(many, program)
    if program[0] != "loop":
        raise BadProgram(())


def plus(formula, step):
    """The formula with a step added to its names."""
    for place, number in enumerate(step):
        if number != 0:
            formula = put_in(formula, place, (number, ((place, 1),)))
    return formula


def plus_often(formula, step, more, name):
    """The formula with a step added to its names `more` times and as often as the number of another name says."""
    for place, number in enumerate(step):
        if number != 0:
            formula = put_in(formula, place, (more * number, ((place, 1), (name, number))))
    return formula


def round_in(many, program):
    """As round_of, unchecked."""
    atoms = []
    total = tuple([0 for _ in range(many)])
    for guard, step in program[1]:
        atoms.extend([plus(atom, total) for atom in guard])
        total = added(total, step, 1)
        atoms.extend([("ge", (total[place], ((place, 1),))) for place in range(many) if step[place] < 0])
    return (tuple(atoms), total)


def round_of(many, program):
    """(ATOMS, STEP) of a loop: a round is possible where all atoms hold, and adds the step."""
    need_loop(many, program)
    return round_in(many, program)


def rate_of(atom, step):
    """What a round changes the value of an atom's term by."""
    return value_in((0, atom[1][1]), step)


def is_falling(atom, step):
    """Whether an atom that holds fails behind some rounds."""
    rate = rate_of(atom, step)
    return rate < 0 or (atom[0] == "eq" and rate > 0)


def falling_in(atoms, step):
    """The list of the falling ones of the atoms."""
    return [atom for atom in atoms if is_falling(atom, step)]


def rounds_formula(many, program):
    """A plain formula that holds where a loop ends and goes round as often as the number of the name `many` says."""
    need_loop(many, program)
    atoms, step = round_in(many, program)
    # The rounds at which an atom holds stand side by side: the first and the last one tell of all between.
    last = tuple([plus_often(atom, step, -1, many) for atom in atoms])
    behind = tuple([plus_often(atom, step, 0, many) for atom in atoms])
    none = ("and", (("eq", (0, ((many, 1),))), ("not", ("and", atoms))))
    some = ("and", (("ge", (-1, ((many, 1),))),) + atoms + last + (("not", ("and", behind)),))
    return simplified(("or", (none, some)))


def before(many, program, formula):
    """A formula that holds at the rows from which some run ends in a row at which another one holds."""
    need_program(many, program)
    need_formula(formula)
    return told_before(many, program, formula)


def told_before(many, program, formula):
    """As before, unchecked."""
    kind = program[0]
    if kind == "add":
        return before_add(program[1], formula)
    if kind == "loop":
        return before_loop(many, program, formula)
    if kind == "row":
        for part in reversed(program[1]):
            formula = told_before(many, part, formula)
        return formula
    return chosen(program, [told_before(many, part, formula) for _, part in programs_in(program)])


def chosen(program, parts):
    """The simple form that tells, by formulas of the programs in an if or one, what holds for all of it."""
    if program[0] == "one":
        return simplified(("or", tuple(parts)))
    guard = program[1]
    return simplified(("or", (("and", guard + (parts[0],)), ("and", (("not", ("and", guard)), parts[1])))))


def before_add(step, formula):
    """As before, for an add."""
    moved = plus(formula, step)
    if min(step) >= 0:
        return simplified(moved)
    atoms = tuple([("ge", (number, ((place, 1),))) for place, number in enumerate(step) if number < 0])
    return simplified(("or", (("and", atoms + (moved,)), ("and", (("not", ("and", atoms)), formula)))))


def before_loop(many, program, formula):
    """As before, for a loop."""
    atoms, step = round_in(many, program)
    falling = falling_in(atoms, step)
    idle = ("and", (("not", ("and", atoms)), formula))
    if not falling:
        return simplified(idle)
    if any([atom[0] == "eq" for atom in falling]):
        # An eq that falls holds in one round alone.
        return simplified(("or", (idle, ("and", atoms + (plus(formula, step),)))))
    name = name_for(many, formula)
    steady = tuple([atom for atom in atoms if not is_falling(atom, step)])
    now = tuple([plus_often(atom, step, 0, name) for atom in falling])
    then = tuple([plus_often(atom, step, 1, name) for atom in falling])
    end = plus_often(formula, step, 1, name)
    rounds = ("and", steady + now + (("not", ("and", then)), end))
    return simplified(("or", (idle, ("some", name, rounds))))


def name_for(many, formula):
    """The least name from `many` on that is not free in the formula; TooGreat."""
    for name in range(many, MOST_NAMES):
        if not is_free(formula, name):
            return name
    raise TooGreat(MOST_NAMES)


def unending(many, program):
    """A formula that holds at the rows from which some run never ends."""
    need_program(many, program)
    return told_unending(many, program)


def told_unending(many, program):
    """As unending, unchecked."""
    kind = program[0]
    if kind == "add":
        return NEVER
    if kind == "loop":
        atoms, step = round_in(many, program)
        return NEVER if falling_in(atoms, step) else simplified(("and", atoms))
    if kind == "row":
        formula = NEVER
        for part in reversed(program[1]):
            formula = simplified(("or", (told_unending(many, part), told_before(many, part, formula))))
        return formula
    return chosen(program, [told_unending(many, part) for _, part in programs_in(program)])


def surely(many, program, formula):
    """A formula that holds at the rows from which each run ends, and in a row at which another one holds."""
    need_program(many, program)
    need_formula(formula)
    endless = told_unending(many, program)
    other = told_before(many, program, negated(formula))
    return simplified(("and", (("not", endless), ("not", other))))


def relation(many, program):
    """A formula of a first row and, behind it, a last row to which some run leads from it."""
    need_program(many, program)
    return told_relation(many, program)


def told_relation(many, program):
    """As relation, unchecked."""
    equal = tuple([("eq", (0, ((place, 1), (many + place, -1)))) for place in range(many)])
    return told_before(many, program, ("and", equal))


def after(many, program, formula):
    """A formula of the rows in which some run ends that begins in a row at which another one holds."""
    need_program(many, program)
    need_wide(many, formula)
    whole = ("and", (formula, told_relation(many, program)))
    for place in range(many):
        whole = trade_names(whole, place, many + place)
    for place in range(many):
        whole = ("some", many + place, whole)
    return simplified(whole)
