"""Promise 4: names, amounts and lines, True or False of anything."""

import unittest

import things
from trustways.names import is_amount, is_line, is_name


class Names(unittest.TestCase):
    def test_names(self):
        for thing in things.names():
            with self.subTest(thing=thing):
                self.assertIs(is_name(thing), True)

    def test_each_small_letter_is_a_name_and_no_other_sign(self):
        for code in range(0, 1000):
            sign = chr(code)
            wanted = sign in "abcdefghijklmnopqrstuvwxyz"
            with self.subTest(sign=sign):
                self.assertIs(is_name(sign), wanted)
                self.assertIs(is_name("a" + sign), wanted)
                self.assertIs(is_name(sign + "a"), wanted)
                self.assertIs(is_name("abc" + sign + "efgh"), wanted)

    def test_one_to_eight_letters(self):
        for length in range(0, 20):
            with self.subTest(length=length):
                self.assertIs(is_name("q" * length), 1 <= length <= 8)

    def test_no_names(self):
        for place, thing in enumerate(things.no_names()):
            with self.subTest(place=place):
                self.assertIs(is_name(thing), False)


class Numbers(unittest.TestCase):
    def test_amounts_at_the_edges(self):
        for thing in [1, 2, 10 ** 59 - 1, 10 ** 59, 10 ** 60 - 1]:
            self.assertIs(is_amount(thing), True)
        for thing in [-1, 0, 10 ** 60, 10 ** 60 + 1]:
            self.assertIs(is_amount(thing), False)

    def test_lines_at_the_edges(self):
        for thing in [0, 1, 2, 10 ** 59 - 1]:
            self.assertIs(is_line(thing), True)
        for thing in [-1, 10 ** 59, 10 ** 60 - 1, 10 ** 60]:
            self.assertIs(is_line(thing), False)

    def test_truths_are_no_numbers(self):
        for call in [is_amount, is_line]:
            self.assertIs(call(True), False)
            self.assertIs(call(False), False)

    def test_no_amounts(self):
        for place, thing in enumerate(things.no_amounts()):
            with self.subTest(place=place):
                self.assertIs(is_amount(thing), False)

    def test_no_lines(self):
        for place, thing in enumerate(things.no_lines()):
            with self.subTest(place=place):
                self.assertIs(is_line(thing), False)


class NothingChanges(unittest.TestCase):
    def test_what_is_handed_in_stays(self):
        for call in [is_name, is_amount, is_line]:
            some_list, some_dict = ["a", 1], {"a": [1]}
            call(some_list)
            call(some_dict)
            self.assertEqual(some_list, ["a", 1])
            self.assertEqual(some_dict, {"a": [1]})


if __name__ == "__main__":
    unittest.main()
