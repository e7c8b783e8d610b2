"""Point [4]: the errors."""

import unittest

from helpers import any_values, same
from whyblank import errors
from whyblank.errors import (
    BlankError, InvalidAsk, InvalidBook, InvalidChart, InvalidCommand, InvalidForm, InvalidFraction, InvalidMaker,
    InvalidSheets, InvalidSize, InvalidText, InvalidWay, NoName, Refused,
)

WITH_AT = [
    InvalidFraction, InvalidForm, InvalidBook, InvalidSheets, InvalidChart, InvalidMaker, InvalidWay, InvalidAsk, InvalidText,
]
WITH_WORD = [InvalidSize, Refused]
KEEPERS = [(one, "at") for one in WITH_AT] + [(one, "word") for one in WITH_WORD] + [(NoName, "name")]
DIRECT = WITH_AT + WITH_WORD + [InvalidCommand]


class Errors(unittest.TestCase):
    def test_bases(self):
        self.assertEqual(BlankError.__bases__, (Exception,))
        for one in DIRECT:
            self.assertEqual(one.__bases__, (BlankError,), one)
        self.assertEqual(NoName.__bases__, (KeyError,))

    def test_each_is_defined_in_its_file(self):
        for one in DIRECT + [BlankError, NoName]:
            self.assertEqual(one.__module__, "whyblank.errors")
            self.assertIs(getattr(errors, one.__name__), one)

    def test_which_class_catches_which(self):
        for one in DIRECT:
            error = one() if one is InvalidCommand else one(1)
            with self.assertRaises(BlankError):
                raise error
            self.assertNotIsInstance(error, (KeyError, ValueError, LookupError, NoName))
            for other in DIRECT:
                self.assertEqual(isinstance(error, other), one is other)
        self.assertIsInstance(NoName("a"), KeyError)
        self.assertIsInstance(NoName("a"), LookupError)
        self.assertNotIsInstance(NoName("a"), BlankError)
        self.assertNotIsInstance(NoName("a"), ValueError)
        for one in DIRECT:
            self.assertNotIsInstance(NoName("a"), one)

    def test_each_keeps_what_it_is_passed(self):
        for one, name in KEEPERS:
            for value in any_values():
                for error in (one(value), one(**{name: value})):
                    self.assertTrue(same(getattr(error, name), value))
                    self.assertEqual(list(vars(error)), [name])

    def test_lists_are_kept_themselves(self):
        for one, name in KEEPERS:
            held = [1, 2]
            error = one(held)
            held.append(3)
            self.assertIs(getattr(error, name), held)

    def test_command_keeps_nothing(self):
        self.assertEqual(vars(InvalidCommand()), {})
        with self.assertRaises(TypeError):
            InvalidCommand(1)

    def test_each_of_the_others_takes_one_thing(self):
        for one, _ in KEEPERS:
            with self.assertRaises(TypeError):
                one()
            with self.assertRaises(TypeError):
                one(1, 2)


if __name__ == "__main__":
    unittest.main()
