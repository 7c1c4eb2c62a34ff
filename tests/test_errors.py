"""The error classes of the interface."""

import unittest

from sameapart import errors

REFUSALS = ("NoSize", "NoSuch", "NoRow", "NoPerson", "NoNote")


class ErrorsTest(unittest.TestCase):
    def test_apart_error_stands_under_value_error(self):
        self.assertEqual(errors.ApartError.__bases__, (ValueError,))

    def test_refusals_stand_straight_beneath_apart_error(self):
        for name in REFUSALS:
            with self.subTest(name=name):
                self.assertEqual(getattr(errors, name).__bases__, (errors.ApartError,))

    def test_refusals_are_classes_of_their_own(self):
        for name in REFUSALS:
            for other in REFUSALS:
                with self.subTest(name=name, other=other):
                    beneath = issubclass(getattr(errors, name), getattr(errors, other))
                    self.assertEqual(beneath, name == other)

    def test_classes_bear_their_names(self):
        for name in REFUSALS + ("ApartError",):
            self.assertEqual(getattr(errors, name).__name__, name)

    def test_refusals_can_be_raised_with_words(self):
        for name in REFUSALS:
            with self.subTest(name=name):
                with self.assertRaises(errors.ApartError):
                    raise getattr(errors, name)("words")


if __name__ == "__main__":
    unittest.main()
