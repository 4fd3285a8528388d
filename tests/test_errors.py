"""Point [4]: the errors."""

import unittest

from tests.any_values import any_values
from termstill import errors

ARGUMENTS = {
    "InvalidKind": "word",
    "InvalidRule": "word",
    "InvalidStory": "at",
    "InvalidUnsure": "at",
    "InvalidText": "at",
    "Refused": "at",
    "NoKind": "name",
}


class Raiser:
    """A thing that cannot be shown or compared."""

    def __str__(self):
        raise RuntimeError

    __repr__ = __str__

    def __eq__(self, other):
        raise RuntimeError


class Errors(unittest.TestCase):
    def test_classes_stand_directly_under_the_named_class(self):
        self.assertEqual(errors.TermError.__bases__, (ValueError,))
        self.assertEqual(errors.NoKind.__bases__, (KeyError,))
        for name in [*ARGUMENTS, "InvalidCommand"]:
            if name != "NoKind":
                self.assertEqual(getattr(errors, name).__bases__, (errors.TermError,), name)

    def test_arguments_are_kept_by_position_and_by_name(self):
        for name, argument in ARGUMENTS.items():
            made = getattr(errors, name)
            for value in any_values() + [Raiser(), {"a": 1}, 1.5, object, b"x"]:
                self.assertIs(getattr(made(value), argument), value)
                self.assertIs(getattr(made(**{argument: value}), argument), value)

    def test_a_list_that_is_changed_later_is_kept_itself(self):
        for name, argument in ARGUMENTS.items():
            held = [1]
            error = getattr(errors, name)(held)
            held.append(2)
            self.assertIs(getattr(error, argument), held)
            self.assertEqual(getattr(error, argument), [1, 2])

    def test_errors_are_raised_and_caught(self):
        for name, argument in ARGUMENTS.items():
            made = getattr(errors, name)
            with self.assertRaises(made) as caught:
                raise made("here")
            self.assertEqual(getattr(caught.exception, argument), "here")

    def test_invalid_command_has_no_argument(self):
        with self.assertRaises(errors.TermError):
            raise errors.InvalidCommand()
        with self.assertRaises(TypeError):
            errors.InvalidCommand(1)

    def test_each_argument_is_needed(self):
        for name in ARGUMENTS:
            with self.assertRaises(TypeError):
                getattr(errors, name)()
