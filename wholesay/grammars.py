"""Grammars: their checks, ways of words, and how often the rules are used in them."""

from wholesay.errors import BadGrammar, BadPaper, SayError, TooGreat
from wholesay.kinds import is_between, is_integer, is_tuple_of

MOST_RULES = 8
MOST_ITEMS = 6
MOST_VARIABLE = 3
MOST_WAY = 400


def is_item(value, many):
    """Whether it is a letter or a variable."""
    if not is_tuple_of(value, 2) or not isinstance(value[0], str):
        return False
    if value[0] == "letter":
        return is_between(value[1], 0, many - 1)
    return value[0] == "variable" and is_between(value[1], 0, MOST_VARIABLE)


def is_rule(value, many):
    """Whether it is a rule of a grammar with that many letters."""
    if not is_tuple_of(value, 2) or not is_between(value[0], 0, MOST_VARIABLE) or not isinstance(value[1], tuple):
        return False
    return len(value[1]) <= MOST_ITEMS and all([is_item(item, many) for item in value[1]])


def need_grammar(value):
    """The grammar, or BadGrammar of the first place that is not as told."""
    if not is_tuple_of(value, 2):
        raise BadGrammar(())
    many, rules = value
    if not is_between(many, 1, 4):
        raise BadGrammar((0,))
    if not isinstance(rules, tuple) or not 1 <= len(rules) <= MOST_RULES:
        raise BadGrammar((1,))
    for at, rule in enumerate(rules):
        if not is_rule(rule, many):
            raise BadGrammar((1, at))
    return value


def variables_of(rule):
    """The list of the variables in the BODY of a rule, as often as they stand there."""
    return [which for kind, which in rule[1] if kind == "variable"]


def word_by(rules, way):
    """The list of the letters that a tuple of any things makes as a way, None if it is no whole way."""
    word = []
    ahead = [("variable", 0)]
    for number in way:
        while ahead and ahead[-1][0] == "letter":
            word.append(ahead.pop()[1])
        if not ahead or not is_between(number, 0, len(rules) - 1) or rules[number][0] != ahead.pop()[1]:
            return None
        ahead.extend(list(reversed(rules[number][1])))
    if any([kind == "variable" for kind, _ in ahead]):
        return None
    return word + [which for _, which in reversed(ahead)]


def need_way(grammar, way):
    """The letters of a whole way of the grammar; BadGrammar, BadPaper, TooGreat."""
    need_grammar(grammar)
    if not isinstance(way, tuple):
        raise BadPaper("way")
    if len(way) > MOST_WAY:
        raise TooGreat(MOST_WAY)
    word = word_by(grammar[1], way)
    if word is None:
        raise BadPaper("way")
    return word


def word_of(grammar, way):
    """The tuple of the letters that a whole way makes."""
    return tuple(need_way(grammar, way))


def uses_in(grammar, way):
    """The tuple that tells how often each rule comes in a whole way."""
    need_way(grammar, way)
    return tuple([way.count(number) for number in range(len(grammar[1]))])


def is_way(grammar, way):
    """Whether a value of any kind is a whole way of at most 400 rules."""
    need_grammar(grammar)
    try:
        need_way(grammar, way)
    except SayError:
        return False
    return True


def are_uses(rules, uses):
    """Whether a value of any kind tells an integer from 0 on for each rule."""
    return is_tuple_of(uses, len(rules)) and all([is_integer(use) and use >= 0 for use in uses])


def are_balanced(rules, uses):
    """Whether each variable is put in as often as it is made, 0 once more."""
    made = [1, 0, 0, 0]
    for rule, use in zip(rules, uses):
        made[rule[0]] -= use
        for variable in variables_of(rule):
            made[variable] += use
    return not any(made)


def are_connected(rules, uses, variables):
    """Whether each rule that is used has a variable that is reached from these."""
    reached = {variable: True for variable in variables}
    waiting = list(reached)
    while waiting:
        variable = waiting.pop()
        for rule, use in zip(rules, uses):
            if use > 0 and rule[0] == variable:
                for each in variables_of(rule):
                    if each not in reached:
                        reached[each] = True
                        waiting.append(each)
    return all([use == 0 or rule[0] in reached for rule, use in zip(rules, uses)])


def is_uses(grammar, uses):
    """Whether a value of any kind is a tuple of uses that are balanced and connected."""
    rules = need_grammar(grammar)[1]
    return are_uses(rules, uses) and are_balanced(rules, uses) and are_connected(rules, uses, [0])


def letters_of(grammar, uses):
    """The tuple that tells how often each letter is made by uses."""
    many, rules = need_grammar(grammar)
    if not are_uses(rules, uses):
        raise BadPaper("uses")
    return tuple([sum([use * rule[1].count(("letter", letter)) for rule, use in zip(rules, uses)])
                  for letter in range(many)])


def way_with(grammar, uses):
    """The least whole way in which the rules come just so often."""
    rules = need_grammar(grammar)[1]
    if not is_uses(grammar, uses):
        raise BadPaper("uses")
    if sum(uses) > MOST_WAY:
        raise TooGreat(MOST_WAY)
    way = []
    opened = [0]
    left = list(uses)
    for _ in range(sum(uses)):
        number = next_rule(rules, left, opened)
        way.append(number)
        left[number] -= 1
        opened = variables_of(rules[number]) + opened[1:]
    return tuple(way)


def next_rule(rules, left, opened):
    """The first rule that can be put in for the leftmost open variable so that what is left can still be used."""
    for number, rule in enumerate(rules):
        if rule[0] == opened[0] and left[number] > 0:
            fewer = left[:number] + [left[number] - 1] + left[number + 1:]
            if are_connected(rules, fewer, variables_of(rule) + opened[1:]):
                return number
    return None
