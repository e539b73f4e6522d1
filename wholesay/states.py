"""States and the rows of numbers to which columns lead from them: found from a first one, merged if they are alike.

In these modules STEPS and ENDS are those of a machine, over any number of places; nothing here checks them.
"""

from wholesay.errors import TooGreat


def explored(first, follow, most):
    """The list of all that is come to from the first one, and the list of the rows of steps between them.

    `follow` gives the list of what the columns lead to; None among it stands for nowhere. TooGreat(most) if more
    than that many are come to, nowhere not counted.
    """
    numbers = {first: 0}
    found = [first]
    steps = []
    while len(steps) < len(found):
        row = []
        for each in follow(found[len(steps)]):
            if each not in numbers:
                numbers[each] = len(found)
                found.append(each)
                if len(found) > (most + 1 if None in numbers else most):
                    raise TooGreat(most)
            row.append(numbers[each])
        steps.append(tuple(row))
    return found, steps


class Classes:
    """States parted into classes, ever finer; a class waits if it may still part others."""

    def __init__(self, ends):
        self.class_of = [0 for _ in ends]
        self.members = [{state: True for state in range(len(ends))}]
        self.waits = [False]
        self.waiting = []
        self.part([state for state in range(len(ends)) if ends[state]])

    def part(self, states):
        """Make a class of some states of one class, if there are some and others stay."""
        if not states or len(states) == len(self.members[self.class_of[states[0]]]):
            return
        old = self.class_of[states[0]]
        new = len(self.members)
        for state in states:
            del self.members[old][state]
            self.class_of[state] = new
        self.members.append({state: True for state in states})
        self.waits.append(False)
        # If the old class does not wait, what it parts is done: then the smaller half parts all that is left.
        if self.waits[old] or len(states) <= len(self.members[old]):
            self.wait(new)
        else:
            self.wait(old)

    def wait(self, number):
        """Let a class wait."""
        self.waits[number] = True
        self.waiting.append(number)

    def next_waiting(self):
        """The list of the states of a class that waited."""
        number = self.waiting.pop()
        self.waits[number] = False
        return list(self.members[number])


def sources_of(steps):
    """For each of the unlike columns the list that has, for each state, the states from which it leads there."""
    found = []
    unlike = {column: True for column in zip(*steps)}
    for column in unlike:
        sources = [[] for _ in steps]
        for state, target in enumerate(column):
            sources[target].append(state)
        found.append(sources)
    return found


def classes_of(steps, ends):
    """The list of the numbers of the classes of the states: one class for all that are alike."""
    classes = Classes(ends)
    columns = sources_of(steps)
    while classes.waiting:
        states = classes.next_waiting()
        for sources in columns:
            hits = {}
            for state in states:
                for source in sources[state]:
                    hits.setdefault(classes.class_of[source], []).append(source)
            for number in hits:
                classes.part(hits[number])
    return classes.class_of


def least_states(steps, ends):
    """The pair (STEPS, ENDS) of the least machine that takes the same."""
    found, rows = explored(0, lambda state: steps[state], len(steps))
    classes = classes_of(rows, [ends[state] for state in found])
    members = {number: state for state, number in enumerate(classes)}
    order, least = explored(classes[0], lambda number: [classes[to] for to in rows[members[number]]], len(rows))
    return (tuple(least), tuple([ends[found[members[number]]] for number in order]))
