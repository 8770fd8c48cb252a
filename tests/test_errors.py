"""The error classes of the interface."""

import unittest

from trustways import errors
from trustways.errors import (
    NoAmount, NoChain, NoHouse, NoRoom, NoRow, NoWish, StillOwes, TooLow, TooMany, TooMuch, Twice, WayError,
)

REFUSALS = [
    NoHouse, Twice, NoAmount, TooLow, NoChain, NoRoom, TooMuch, NoWish, StillOwes, TooMany, NoRow,
]


class Errors(unittest.TestCase):
    def test_way_error_stands_straight_under_value_error(self):
        self.assertEqual(WayError.__bases__, (ValueError,))

    def test_each_refusal_stands_straight_under_way_error(self):
        for kind in REFUSALS:
            with self.subTest(kind=kind.__name__):
                self.assertEqual(kind.__bases__, (WayError,))

    def test_eleven_refusals_none_under_another_one(self):
        self.assertEqual(len(set(REFUSALS)), 11)
        for kind in REFUSALS:
            for other in REFUSALS:
                if kind is not other:
                    self.assertFalse(issubclass(kind, other))

    def test_each_has_its_name_and_is_defined_in_errors(self):
        for kind in REFUSALS + [WayError]:
            self.assertIs(getattr(errors, kind.__name__), kind)
            self.assertEqual(kind.__module__, "trustways.errors")

    def test_each_is_raised_with_words_and_taken_as_way_error(self):
        for kind in REFUSALS:
            with self.assertRaises(WayError) as caught:
                raise kind("some words")
            self.assertEqual(str(caught.exception), "some words")


if __name__ == "__main__":
    unittest.main()
