"""Point 3: the errors, their fields and their base class."""

import unittest

from lastcopy import errors
from tests.support import odd_values

WITH_FIELD = {
    "InvalidAction": "position",
    "UnknownWriter": "writer",
    "TooManyResults": "total",
    "InvalidFormat": "position",
}
WITHOUT_FIELDS = [
    "InvalidLineCounts", "InvalidLine", "InvalidContent", "InvalidLineSet", "InvalidAtomicSet",
    "InvalidState", "InvalidSaveOrder", "InvalidObservations", "InvalidInteger",
    "InvalidNumbers", "EmptyHistory", "UnknownName", "DuplicateName", "InvalidCommand",
]


class ErrorTest(unittest.TestCase):
    def test_base(self):
        self.assertEqual(errors.LastCopyError.__bases__, (ValueError,))

    def test_each_error_is_a_direct_subclass(self):
        for name in list(WITH_FIELD) + WITHOUT_FIELDS:
            with self.subTest(name):
                self.assertEqual(getattr(errors, name).__bases__, (errors.LastCopyError,))
                self.assertEqual(getattr(errors, name).__name__, name)

    def test_field_is_stored(self):
        for name, field in WITH_FIELD.items():
            for value in [0, 7, "w"] + odd_values():
                with self.subTest(name):
                    error = getattr(errors, name)(value)
                    self.assertIs(getattr(error, field), value)

    def test_one_message_of_any_value(self):
        for name in WITHOUT_FIELDS:
            for value in ["why"] + odd_values():
                with self.subTest(name):
                    error = getattr(errors, name)(value)
                    self.assertIs(type(error), getattr(errors, name))

    def test_raised_and_caught(self):
        for name in list(WITH_FIELD) + WITHOUT_FIELDS:
            for base in (getattr(errors, name), errors.LastCopyError, ValueError):
                with self.assertRaises(base):
                    raise getattr(errors, name)(1)


if __name__ == "__main__":
    unittest.main()
