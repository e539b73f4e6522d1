"""The trees of ways, and ways with the same uses whose trees are flat."""

from wholesay.errors import TooGreat
from wholesay.grammars import need_way, variables_of

MOST_FLATTENED = 60


def raised(rounds_under):
    """The rounds of a tree, those of the trees under its node being told."""
    most = max(rounds_under, default=0)
    return most + 1 if rounds_under.count(most) > 1 else most


def rounds(grammar, way):
    """The rounds of the tree of a whole way."""
    need_way(grammar, way)
    # From the last rule on, what stands under a node is done ahead of it, the first of it last.
    found = []
    for number in reversed(way):
        under = [found.pop() for _ in variables_of(grammar[1][number])]
        found.append(raised(under))
    return found[0]


class Tree:
    """A node for a rule with the trees under it; rounds and size are kept."""

    def __init__(self, number, variable, under):
        self.number = number
        self.variable = variable
        self.under = under
        self.rounds = raised([tree.rounds for tree in under])
        self.size = 1 + sum([tree.size for tree in under])


def tree_of(rules, way):
    """The tree of a whole way."""
    found = []
    for number in reversed(way):
        found.append(Tree(number, rules[number][0], [found.pop() for _ in variables_of(rules[number])]))
    return found[0]


def nodes_of(tree):
    """The list of the pairs (path, tree) of all trees within one, itself first, from the left."""
    found = []
    waiting = [((), tree)]
    while waiting:
        path, each = waiting.pop()
        found.append((path, each))
        for at in range(len(each.under) - 1, -1, -1):
            waiting.append((path + (at,), each.under[at]))
    return found


def put_at_path(tree, path, other):
    """The tree with another one at the end of a path."""
    if not path:
        return other
    under = list(tree.under)
    under[path[0]] = put_at_path(under[path[0]], path[1:], other)
    return Tree(tree.number, tree.variable, under)


def variables_in(tree):
    """How many unlike variables a tree has."""
    return len({each.variable for _, each in nodes_of(tree)})


def flattened(grammar, way):
    """A whole way with the same uses whose rounds are at most the number of its variables."""
    need_way(grammar, way)
    if len(way) > MOST_FLATTENED:
        raise TooGreat(MOST_FLATTENED)
    return tuple([each.number for _, each in nodes_of(flat(tree_of(grammar[1], way)))])


def flat(tree):
    """A tree of the same rules whose rounds are at most the number of its variables."""
    under = [flat(each) for each in tree.under]
    most = variables_in(tree)
    while True:
        tops = [at for at, each in enumerate(under) if each.rounds == most]
        if len(tops) < 2:
            return Tree(tree.number, tree.variable, under)
        # Both have all variables, and the later one has one of them twice on a path downwards.
        first, later = passed_on(under[tops[0]], under[tops[1]])
        under[tops[0]] = flat(first)
        under[tops[1]] = flat(later)


def passed_on(first, later):
    """Two trees, the piece between two places with one variable cut out of the later one and put into the first."""
    top, bottom = piece_of(later)
    paths = dict(nodes_of(later))
    hole = paths[bottom]
    piece = paths[top]
    path, each = [spot for spot in nodes_of(first) if spot[1].variable == piece.variable][0]
    grown = put_at_path(first, path, put_at_path(piece, bottom[len(top):], each))
    return grown, put_at_path(later, top, hole)


def piece_of(tree):
    """The paths of the two places, one below the other, with one variable and the most rules between them."""
    nodes = nodes_of(tree)
    best = None
    for path, each in nodes:
        for other_path, other in nodes:
            if len(other_path) > len(path) and other_path[:len(path)] == path and other.variable == each.variable:
                if best is None or each.size - other.size > best[0]:
                    best = (each.size - other.size, path, other_path)
    return best[1:]
