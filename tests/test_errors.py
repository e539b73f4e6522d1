"""Point 1 and the interface of wholesay/errors.py: every error, with its arguments as attributes."""

import unittest

from wholesay import errors
from wholesay.errors import SayError

ARGUMENTS = {
    "BadWidth": ["value"], "BadRow": ["value"], "BadName": ["value"], "BadTerm": ["value"], "BadFormula": ["path"],
    "NotPlain": ["path"], "BadMachine": ["place"], "BadSet": ["place"], "BadEquations": ["place"],
    "BadGrammar": ["place"], "BadBoard": ["place"], "BadProgram": ["path"], "BadPaper": ["word"],
    "BadText": ["line", "word"], "BadIndex": ["value"], "BadParameter": ["value"], "NoRow": [], "Unlike": ["value"],
    "TooGreat": ["most"], "NothingBack": [], "BadDeed": ["place"],
}


class Errors(unittest.TestCase):
    def test_all_are_there(self):
        self.assertEqual(SayError.__bases__, (ValueError,))
        for name, names in ARGUMENTS.items():
            kind = getattr(errors, name)
            self.assertEqual(kind.__bases__, (SayError,))
            values = [object() for _ in names]
            for error in (kind(*values), kind(**dict(zip(names, values)))):
                self.assertEqual(vars(error), dict(zip(names, values)))

    def test_arguments_of_any_kind(self):
        for value in (None, [1], {}, 10 ** 5000, "text", ()):
            self.assertIs(errors.BadRow(value).value, value)


if __name__ == "__main__":
    unittest.main()
