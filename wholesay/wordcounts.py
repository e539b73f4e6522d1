"""Letter counts: the set of how often the letters stand in the words of a grammar, and uses for one such count."""

from wholesay.asking import first_apart
from wholesay.equations import told_set
from wholesay.errors import BadRow, NoRow, TooGreat, Unlike
from wholesay.grammars import MOST_VARIABLE, need_grammar, variables_of
from wholesay.kinds import is_row
from wholesay.lines import MOST_LINES
from wholesay.linework import has
from wholesay.ordering import side_of, tie_of
from wholesay.solving import solved
from wholesay.squares import added, square_of, turns_of
from wholesay.turning import machine_of_set


def variable_sets():
    """All ascending tuples of variables with 0, ascending."""
    found = [(0,)]
    for variable in range(1, MOST_VARIABLE + 1):
        found = found + [each + (variable,) for each in found]
    return sorted(found)


def rules_within(rules, variables):
    """The numbers of the rules that have these variables alone."""
    return [number for number, rule in enumerate(rules)
            if all([each in variables for each in [rule[0]] + variables_of(rule)])]


def all_come_to_zero(rules, chosen):
    """Whether going from each variable to that of the rule chosen for it, again and again, comes to 0."""
    for start in chosen:
        variable = start
        for _ in chosen:
            if variable != 0:
                variable = rules[chosen[variable]][0]
        if variable != 0:
            return False
    return True


def choices_within(rules, variables, within):
    """The list of the choices of rules that make each variable but 0, all from 0 on, in their order."""
    found = [()]
    for variable in variables[1:]:
        makers = [number for number in within if variable in variables_of(rules[number])]
        found = [choice + (number,) for choice in found for number in makers]
    return [choice for choice in found if all_come_to_zero(rules, dict(zip(variables[1:], choice)))]


def cases_of(rules):
    """The list of all (VARIABLES, WITHIN, CHOSEN): variables, the rules within them, and those that are used for sure.

    Choices of the same rules for other variables make the same equations, so the first of them stands for all.
    """
    found = {}
    for variables in variable_sets():
        within = rules_within(rules, variables)
        for choice in choices_within(rules, variables, within):
            found[(variables, tuple(within), tuple(sorted(set(choice))))] = True
    return list(found)


def surplus(rule, variable):
    """How often a rule puts a variable in, less how often it makes it."""
    return (1 if rule[0] == variable else 0) - variables_of(rule).count(variable)


def equations_for(grammar, case):
    """The equations of a case, of the letters' numbers and of the uses of the rules beyond those for sure."""
    many, rules = grammar
    variables, within, chosen = case
    conditions = []
    for letter in range(many):
        made = [-rule[1].count(("letter", letter)) for rule in rules]
        ahead = tuple([1 if each == letter else 0 for each in range(many)])
        conditions.append(("eq", ahead + at_numbers(made, within), sum(at_numbers(made, chosen))))
    for variable in variables:
        left = [surplus(rule, variable) for rule in rules]
        const = sum(at_numbers(left, chosen)) - (1 if variable == 0 else 0)
        conditions.append(("eq", tuple([0 for _ in range(many)]) + at_numbers(left, within), const))
    return (many + len(within), tuple(conditions))


def at_numbers(row, numbers):
    """The tuple of what stands in the row at these numbers."""
    return tuple([row[number] for number in numbers])


def counts_of(grammar):
    """The set of the letter counts of the words of all whole ways."""
    many, rules = need_grammar(grammar)
    lines = {}
    for case in cases_of(rules):
        for line in told_set(many, equations_for(grammar, case))[1]:
            lines[line] = True
    if len(lines) > MOST_LINES:
        raise TooGreat(MOST_LINES)
    return (many, tuple(sorted(lines)))


def told_uses(grammar):
    """The dict of the lines of the set of counts: uses for the base, and the list of uses for the periods."""
    many, rules = grammar
    found = {}
    for case in cases_of(rules):
        least, ground = solved(equations_for(grammar, case))
        uses = {}
        for row in ground:
            if any(row[:many]):
                uses[row[:many]] = spread_uses(row[many:], case[1], (), len(rules))
        periods = tuple(sorted(uses))
        for row in least:
            found[(row[:many], periods)] = (spread_uses(row[many:], case[1], case[2], len(rules)),
                                            [uses[period] for period in periods])
    return found


def spread_uses(numbers, within, chosen, many):
    """The uses of all rules, told those of the rules within and one more for each rule that is chosen."""
    uses = [1 if number in chosen else 0 for number in range(many)]
    for number, more in zip(within, numbers):
        uses[number] += more
    return tuple(uses)


def cut_uses(told):
    """The lines that come, by their ties, in the place of dependent ones, with their uses."""
    found = {}
    for line in told:
        base, periods = line
        uses, steps = told[line]
        tie = tie_of(len(base), periods)
        side = [] if tie is None else side_of(tie)
        for at, number in side:
            for times in range(number):
                made = (added(base, periods[at], times), periods[:at] + periods[at + 1:])
                found[made] = (added(uses, steps[at], times), steps[:at] + steps[at + 1:])
    return found


def uses_by(told, row):
    """Uses for a row by the independent ones of the lines told with uses, None if none of these has it."""
    for line in told:
        square = square_of(len(row), line[1])
        turned = None if square is None else turns_of(line, square, row)
        if turned is not None:
            uses, steps = told[line]
            for step, times in zip(steps, turned):
                uses = added(uses, step, times)
            return uses
    return None


def uses_for(grammar, row):
    """Uses of a word that has this letter count."""
    many, _ = need_grammar(grammar)
    if not is_row(row, many):
        raise BadRow(row)
    if not has(counts_of(grammar), row):
        raise NoRow()
    # The same rounds put the lines in order: one of them has the row.
    told = told_uses(grammar)
    found = uses_by(told, row)
    while found is None:
        told = cut_uses(told)
        found = uses_by(told, row)
    return found


def counts_apart(one, other):
    """None if two grammars have the same letter counts, else the first row that just one of them has."""
    need_grammar(one)
    need_grammar(other)
    if one[0] != other[0]:
        raise Unlike(other[0])
    sets = [counts_of(one), counts_of(other)]
    machines = [machine_of_set(value) for value in sets]
    return None if machines[0] == machines[1] else first_apart(machines[0], machines[1])
