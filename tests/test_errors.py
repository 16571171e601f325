"""[34]: the errors."""

import unittest

from circlekeep import errors
from helper import any_values

BEARING = {
    "BadBook": "part", "BadThing": "thing", "BadRow": "part", "BadText": "line", "NotHad": "paper",
    "Mismatch": "part", "BadCircle": "part", "NoDeed": "name", "Kept": "paper", "TooMany": "most",
}
BARE = ("NothingToUndo", "NothingToRedo", "NoCircle", "InvalidCommand")
ALL = (*BEARING, *BARE)


def named(word):
    return getattr(errors, word)


class ErrorsTest(unittest.TestCase):

    def test_each_bears_its_value_unchanged(self):
        for word, parameter in BEARING.items():
            for value in any_values():
                self.assertIs(getattr(named(word)(value), parameter), value)
                self.assertIs(getattr(named(word)(**{parameter: value}), parameter), value)

    def test_parameters_are_asked_for(self):
        for word in BEARING:
            with self.assertRaises(TypeError):
                named(word)()
            with self.assertRaises(TypeError):
                named(word)(1, 2)

    def test_bare_ones_are_made_of_nothing(self):
        for word in BARE:
            self.assertIsInstance(named(word)(), errors.CircleError)

    def test_fourteen_direct_subclasses_of_the_base(self):
        self.assertEqual(len(ALL), 14)
        self.assertEqual(errors.CircleError.__bases__, (Exception,))
        for word in ALL:
            self.assertEqual(named(word).__bases__, (errors.CircleError,))
            self.assertEqual(named(word).__module__, "circlekeep.errors")

    def test_of_no_other_class_and_caught_by_its_own(self):
        for word in ALL:
            made = named(word)("x") if word in BEARING else named(word)()
            for other in ALL:
                self.assertEqual(isinstance(made, named(other)), other == word)
            for caught in (named(word), errors.CircleError, Exception):
                with self.assertRaises(caught) as told:
                    raise made
                self.assertIs(told.exception, made)


if __name__ == "__main__":
    unittest.main()
