"""Papers that show that equations have no solution: made, and judged."""

from wholesay.equations import need_equations
from wholesay.errors import Unlike
from wholesay.kinds import is_between, is_integer, is_tuple_of
from wholesay.lines import is_weights
from wholesay.remainders import rest_weights
from wholesay.solving import solved
from wholesay.weighing import (
    Table, bar_weights, bounded_cases, is_weighing, most_of, weighed_const, weighed_factors)


def unsolved_paper(equations):
    """A paper for equations without a solution; Unlike of the first least solution if there is one."""
    count, rows = need_equations(equations)
    least = solved(equations)[0]
    if least:
        raise Unlike(least[0])
    return paper_for(count, rows)


def paper_for(count, rows):
    """A paper for equations without a solution."""
    table = Table(count, rows)
    weights = bar_weights(table, len(rows))
    if weights is not None:
        return ("bar", weights)
    rest = rest_weights(count, rows)
    if rest is not None:
        return ("rest",) + rest
    # Were nothing bounded, all could grow at once from any integers that hold the eq and mod to a solution.
    most, case, weights = least_cases(count, rows, table)
    return ("cases", case, weights, tuple([paper_for(count, with_case(count, rows, case, number))
                                           for number in range(most + 1)]))


def least_cases(count, rows, table):
    """(MOST, J, WEIGHTS) of the weighing with the fewest cases."""
    cases = [(most_of(count, rows, case, weights), case, weights)
             for case, weights in bounded_cases(count, rows, table)]
    return min(cases)


def with_case(count, rows, case, number):
    """The rows with a number put in for an unknown or for the value of a ge."""
    if case >= count:
        row = rows[case - count]
        return rows[:case - count] + (("eq", row[-2], row[-1] - number),) + rows[case - count + 1:]
    return tuple([row[:-2] + (row[-2][:case] + (0,) + row[-2][case + 1:], row[-1] + number * row[-2][case])
                  for row in rows])


def is_unsolved_paper(equations, paper):
    """Whether a value of any kind is a paper for the equations."""
    count, rows = need_equations(equations)
    return is_paper_for(count, rows, paper)


def is_paper_for(count, rows, paper):
    """Whether a value of any kind is a paper for equations that may have any numbers."""
    if not isinstance(paper, tuple) or len(paper) < 2 or not isinstance(paper[0], str):
        return False
    if paper[0] == "bar":
        return len(paper) == 2 and is_bar_paper(count, rows, paper[1])
    if paper[0] == "rest":
        return len(paper) == 3 and is_rest_paper(count, rows, paper[1], paper[2])
    return paper[0] == "cases" and len(paper) == 4 and is_cases_paper(count, rows, paper)


def is_fit(count, rows, weights):
    """Whether it is a weighing by which no weighed factor is above 0."""
    if not is_weights(weights, len(rows)) or not is_weighing(rows, weights):
        return False
    return all([factor <= 0 for factor in weighed_factors(count, rows, weights)])


def is_bar_paper(count, rows, weights):
    """Whether the weights make a bar."""
    return is_fit(count, rows, weights) and weighed_const(rows, weights) < 0


def is_rest_paper(count, rows, modulus, weights):
    """Whether the weights leave a rest."""
    if not is_integer(modulus) or modulus < 2 or not is_weights(weights, len(rows)):
        return False
    for row, weight in zip(rows, weights):
        if (row[0] == "ge" and weight != 0) or (row[0] == "mod" and weight * row[1] % modulus != 0):
            return False
    factors = weighed_factors(count, rows, weights)
    return weighed_const(rows, weights) % modulus != 0 and all([factor % modulus == 0 for factor in factors])


def is_cases_paper(count, rows, paper):
    """Whether the cases are all that there may be, and each has a paper."""
    _, case, weights, papers = paper
    if not is_fit(count, rows, weights) or weighed_const(rows, weights) < 0:
        return False
    if not is_between(case, 0, count + len(rows) - 1) or not is_counted(count, rows, case, weights):
        return False
    if not is_tuple_of(papers, most_of(count, rows, case, weights) + 1):
        return False
    # No unknown and no ge can be put in twice, so papers stand in one another but few times.
    for number, each in enumerate(papers):
        if not is_paper_for(count, with_case(count, rows, case, number), each):
            return False
    return True


def is_counted(count, rows, case, weights):
    """Whether a case has a share in a weighing."""
    if case < count:
        return weighed_factors(count, rows, weights)[case] < 0
    return rows[case - count][0] == "ge" and weights[case - count] > 0
