"""The errors of the package; each keeps its arguments as attributes of their names."""


class SayError(ValueError):
    """What all errors of the package are."""


class BadWidth(SayError):
    """No width: an integer from 1 to 4 (some functions want less)."""

    def __init__(self, value):
        self.value = value


class BadRow(SayError):
    """No row of the width, or no tuple of numbers as it is told."""

    def __init__(self, value):
        self.value = value


class BadName(SayError):
    """No name, or a name that may not be free there."""

    def __init__(self, value):
        self.value = value


class BadTerm(SayError):
    """No term, or no part of one."""

    def __init__(self, value):
        self.value = value


class BadFormula(SayError):
    """What stands at the path is no formula."""

    def __init__(self, path):
        self.path = path


class NotPlain(SayError):
    """A some or all stands at the path."""

    def __init__(self, path):
        self.path = path


class BadMachine(SayError):
    """What stands at the place in a machine is not as told."""

    def __init__(self, place):
        self.place = place


class BadSet(SayError):
    """What stands at the place in a set is not as told."""

    def __init__(self, place):
        self.place = place


class BadEquations(SayError):
    """What stands at the place in equations is not as told."""

    def __init__(self, place):
        self.place = place


class BadGrammar(SayError):
    """What stands at the place in a grammar is not as told."""

    def __init__(self, place):
        self.place = place


class BadBoard(SayError):
    """What stands at the place in a board is not as told."""

    def __init__(self, place):
        self.place = place


class BadProgram(SayError):
    """What stands at the path is no program."""

    def __init__(self, path):
        self.path = path


class BadPaper(SayError):
    """A way or uses are not as told; the word names which."""

    def __init__(self, word):
        self.word = word


class BadText(SayError):
    """The word with this number, in this line, cannot stand there."""

    def __init__(self, line, word):
        self.line = line
        self.word = word


class BadIndex(SayError):
    """No index, path or place of what it is for."""

    def __init__(self, value):
        self.value = value


class BadParameter(SayError):
    """A parameter is not as told."""

    def __init__(self, value):
        self.value = value


class NoRow(SayError):
    """There is no such row, or no such number."""


class Unlike(SayError):
    """Two things are not alike that have to be."""

    def __init__(self, value):
        self.value = value


class TooGreat(SayError):
    """Something passes its limit."""

    def __init__(self, most):
        self.most = most


class NothingBack(SayError):
    """There is no deed to take back."""


class BadDeed(SayError):
    """What stands at the place is no deed."""

    def __init__(self, place):
        self.place = place
