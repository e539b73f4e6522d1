"""Words of texts: integers as they are written, and words read from the left, the first that cannot stand told."""

from wholesay.errors import BadText

DIGITS = "0123456789"
MOST_DIGITS = 61


def words_of(text):
    """The list of the words of a line."""
    return [word for word in text.split(" ") if word]


def integer_of(word, low, high):
    """The integer from low to high that a word writes, None if it writes none."""
    digits = word[1:] if word.startswith("-") else word
    # A word may have any length, but none that is read has more digits than a number.
    if not 1 <= len(digits) <= MOST_DIGITS or not all([sign in DIGITS for sign in digits]):
        return None
    if digits.startswith("0") and word != "0":
        return None
    value = int(word)
    return value if low <= value <= high else None


class Words:
    """The words of a line, read from one of them on; `line` and `at` tell where the next one stands."""

    def __init__(self, spelled, line, at):
        self.spelled = spelled
        self.line = line
        self.at = at

    def next_word(self):
        """The next word, "" behind the last one."""
        return self.spelled[self.at] if self.at < len(self.spelled) else ""

    def refuse(self):
        """BadText of the next word."""
        raise BadText(self.line, self.at)

    def pass_by(self):
        """Take the next word, whatever it is."""
        self.at += 1

    def want(self, word):
        """Take the next word, which must be this one."""
        if self.next_word() != word:
            self.refuse()
        self.pass_by()

    def want_integer(self, low, high):
        """Take the next word, and tell the integer from low to high that it must write."""
        value = integer_of(self.next_word(), low, high)
        if value is None:
            self.refuse()
        self.pass_by()
        return value

    def want_end(self):
        """There must be no more words."""
        if self.next_word() != "":
            self.refuse()
