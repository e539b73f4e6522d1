"""Texts changed word by word, and a slow way to the first word that cannot stand: what may come is kept on a stack."""


def integer(word, low, high):
    try:
        value = int(word) if len(word) < 99 else None
    except ValueError:
        return None
    return value if value is not None and str(value) == word and low <= value <= high else None


class Formulas:
    """What may come in a formula, the next thing last; `many` bounds the free names."""

    def __init__(self, many=10):
        self.many = many
        self.stack = [("formula", 1, frozenset())]
        self.met = 0

    def take(self, word):
        """Whether the word can stand; "deep" or "many" if a formula begins there that is too deep, or one too many."""
        while self.stack:
            kind, *told = self.stack.pop()
            if kind == "pairs" and word not in ("+", "-") and told[2]:
                continue
            return getattr(self, "in_" + kind)(word, *told)
        return False

    def is_done(self):
        return all(kind == "pairs" and told[2] for kind, *told in self.stack)

    def in_formula(self, word, level, bound):
        number = integer(word, -10 ** 9, 10 ** 9)
        if number is None and word not in ("not", "some", "all", "and", "or"):
            return False
        self.met += 1
        if level > 20:
            return "deep"
        if self.met > 2000:
            return "many"
        if number is not None:
            self.stack.append(("number", number, bound))
        elif word == "not":
            self.stack.append(("formula", level + 1, bound))
        elif word in ("some", "all"):
            self.stack.append(("bound", level, bound))
        else:
            self.stack += [("list", level, bound), ("word", "(")]
        return True

    def in_word(self, word, want):
        return word == want

    def in_bound(self, word, level, bound):
        if word not in ["x%d" % at for at in range(10)]:
            return False
        self.stack.append(("formula", level + 1, bound | {int(word[1])}))
        return True

    def in_list(self, word, level, bound):
        if word == ")":
            return True
        self.stack += [("more", level, bound), ("formula", level + 1, bound)]
        return self.take(word)

    def in_more(self, word, level, bound):
        if word == ";":
            self.stack += [("more", level, bound), ("formula", level + 1, bound)]
        return word in (";", ")")

    def in_number(self, word, number, bound):
        if word == "divides" and 2 <= number <= 10 ** 6:
            self.stack += [("pairs", -1, bound, True), ("integer", -10 ** 9, 10 ** 9)]
            return True
        return self.in_pairs(word, -1, bound, False)

    def in_integer(self, word, low, high):
        return integer(word, low, high) is not None

    def in_pairs(self, word, last, bound, is_mod):
        if word in ("+", "-") and last < 9:
            self.stack += [("name", last, bound, is_mod), ("integer", 1, 10 ** 9)]
            return True
        if not is_mod and word in (">=", "="):
            self.stack.append(("word", "0"))
            return True
        return False

    def in_name(self, word, last, bound, is_mod):
        for name in range(last + 1, 10):
            if word == "x%d" % name and (name < self.many or name in bound):
                self.stack.append(("pairs", name, bound, is_mod))
                return True
        return False


def first_wrong(words, state):
    """The number of the first word that cannot stand, None if all can; "deep" or "many" instead of it."""
    for at, word in enumerate(words):
        truth = state.take(word)
        if truth is not True:
            return truth or at
    return None if state.is_done() else len(words)


def changed(rand, words, others):
    """The words with one put in, left out, or exchanged."""
    words = list(words)
    at = rand.randint(0, len(words))
    kind = rand.choice(("put", "out", "other", "swap", "end"))
    if kind == "put":
        words.insert(at, rand.choice(others))
    elif kind == "out":
        del words[at:at + 1]
    elif kind == "other" and at < len(words):
        words[at] = rand.choice(others)
    elif kind == "swap" and at + 1 < len(words):
        words[at], words[at + 1] = words[at + 1], words[at]
    else:
        words = words[:at]
    return words


def spaced(rand, words):
    """A text of the words with any blanks."""
    return " " * rand.randint(0, 2) + "".join(word + " " * rand.randint(1, 3) for word in words)
