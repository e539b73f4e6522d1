"""Boards at random, and slow ways to what is told of them: deeds done one by one, all orders tried."""

from itertools import combinations, product

BOARD = (2, ((0, (0, 2)), (1, (1, 0))))


def rand_board(rand, places=4, deeds=5, most=2):
    many = rand.randint(1, places)
    found = []
    for _ in range(rand.randint(1, deeds)):
        taken = rand.choice([None] + list(range(many)) * 3)
        found.append((taken, tuple(rand.choice((0, 0, 1, rand.randint(0, most))) for _ in range(many))))
    return (many, tuple(found))


def rand_marking(rand, many, most=2):
    return tuple(rand.choice((0, 0, 1, rand.randint(0, most))) for _ in range(many))


def behind(board, marking, number):
    """The marking behind a deed, None if it cannot be done."""
    taken, put = board[1][number]
    left = list(marking)
    if taken is not None:
        left[taken] -= 1
        if left[taken] < 0:
            return None
    return tuple(a + b for a, b in zip(left, put))


def played(board, marking, cap):
    """All markings come to by deeds, none with a number above the cap on the way."""
    found, open_ones = {marking}, [marking]
    while open_ones:
        here = open_ones.pop()
        for number in range(len(board[1])):
            there = behind(board, here, number)
            if there is not None and max(there) <= cap and there not in found:
                found.add(there)
                open_ones.append(there)
    return found


def led_back(board, marking, cap):
    """All markings from which deeds lead to one, none with a number above the cap on the way."""
    found, open_ones = {marking}, [marking]
    while open_ones:
        here = open_ones.pop()
        for taken, put in board[1]:
            there = [a - b for a, b in zip(here, put)]
            if min(there) >= 0:
                if taken is not None:
                    there[taken] += 1
                there = tuple(there)
                if max(there) <= cap and there not in found:
                    found.add(there)
                    open_ones.append(there)
    return found


def orders(board, marking, counts):
    """All orders of deeds with these counts, ascending."""
    if not any(counts):
        return [()]
    found = []
    for number, count in enumerate(counts):
        there = behind(board, marking, number) if count else None
        if there is not None:
            left = counts[:number] + (count - 1,) + counts[number + 1:]
            found += [(number,) + rest for rest in orders(board, there, left)]
    return found


def is_joined(board, marking, support):
    """Whether all deeds of a support can be done once, were tokens at fed places never to run out."""
    have = {place for place, number in enumerate(marking) if number}
    left = set(support)
    while True:
        free = {number for number in left if board[1][number][0] is None or board[1][number][0] in have}
        if not free:
            return not left
        left -= free
        for number in free:
            have |= {place for place, more in enumerate(board[1][number][1]) if more}


def slow_supports(board, marking):
    numbers = range(len(board[1]))
    some = [each for size in range(1, len(board[1]) + 1) for each in combinations(numbers, size)]
    return tuple(sorted(each for each in some if is_joined(board, marking, each)))


def least_spots(board, support):
    """The sets of places that are enough for a support, and no proper subset of them is."""
    places = range(board[0])
    some = [each for size in range(board[0] + 1) for each in combinations(places, size)]
    enough = [each for each in some if is_joined(board, tuple(int(p in each) for p in places), support)]
    return [each for each in enough if not any(set(other) < set(each) for other in enough)]


def gains(board, support, place):
    return tuple(board[1][number][1][place] - (board[1][number][0] == place) for number in support)


def slow_fewest(board, first, last, most):
    """The counts with the fewest deeds by ways of at most so many, None if there are none."""
    level = {first: {(0,) * len(board[1])}}
    for _ in range(most + 1):
        if last in level:
            return min(level[last])
        more = {}
        for marking, some in level.items():
            for number in range(len(board[1])):
                there = behind(board, marking, number)
                if there is not None:
                    kept = more.setdefault(there, set())
                    for counts in some:
                        kept.add(counts[:number] + (counts[number] + 1,) + counts[number + 1:])
        level = more
    return None


def small_markings(many, most):
    return list(product(range(most + 1), repeat=many))
