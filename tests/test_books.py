"""Promises 5, 6 and 7, and 2 over them: books, what is owed, lines, rooms and standings."""

import random
import unittest

import things
from trustways.books import (
    Book, joined, line_of, lined, no_houses, owes, room, standing, standings,
)
from trustways.errors import NoAmount, NoHouse, TooLow, Twice

GREAT = 10 ** 59 - 1
PAIR_QUESTIONS = [owes, line_of, room]


def sample():
    lines = {("a", "b"): 10, ("b", "a"): 4, ("b", "c"): 7, ("c", "a"): GREAT}
    owed = {("a", "b"): 3, ("b", "c"): 7, ("c", "a"): 5}
    return Book(["a", "b", "c", "d"], lines, owed)


def pairs(book):
    return [(one, other) for one in book.houses for other in book.houses if one != other]


def no_houses_of(book):
    strangers = [name for name in things.names() if name not in book.houses]
    return strangers + things.no_names()


class Values(unittest.TestCase):
    def test_a_book_has_its_three_values(self):
        book = Book(["a", "b"], {("a", "b"): 2}, {("a", "b"): 1})
        self.assertEqual(things.values(book), (["a", "b"], {("a", "b"): 2}, {("a", "b"): 1}))

    def test_the_kinds_of_the_values(self):
        for book in [no_houses(), sample(), joined(no_houses(), "a"), lined(sample(), "a", "c", 1)]:
            self.assertIs(type(book), Book)
            self.assertIs(type(book.houses), list)
            self.assertIs(type(book.lines), dict)
            self.assertIs(type(book.owed), dict)

    def test_the_book_without_houses(self):
        self.assertEqual(things.values(no_houses()), ([], {}, {}))

    def test_what_a_book_was_made_of_is_not_kept(self):
        houses, lines, owed = ["a", "b"], {("a", "b"): 2}, {("a", "b"): 1}
        book = Book(houses, lines, owed)
        houses.append("c")
        lines[("b", "a")] = 3
        owed.clear()
        self.assertEqual(things.values(book), (["a", "b"], {("a", "b"): 2}, {("a", "b"): 1}))

    def test_two_books_without_houses_share_nothing(self):
        first, second = no_houses(), no_houses()
        first.houses.append("a")
        first.lines[("a", "b")] = 1
        first.owed[("a", "b")] = 1
        self.assertEqual(things.values(second), ([], {}, {}))
        self.assertEqual(things.values(no_houses()), ([], {}, {}))


class Questions(unittest.TestCase):
    def tell(self, call, wanted):
        book = sample()
        for one, other in pairs(book):
            with self.subTest(one=one, other=other):
                told = call(book, one, other)
                self.assertEqual(told, wanted.get((one, other), 0))
                self.assertIs(type(told), int)

    def test_owes(self):
        self.tell(owes, {
            ("a", "b"): 3, ("b", "a"): -3, ("b", "c"): 7, ("c", "b"): -7, ("c", "a"): 5, ("a", "c"): -5,
        })

    def test_lines(self):
        self.tell(line_of, {("a", "b"): 10, ("b", "a"): 4, ("b", "c"): 7, ("c", "a"): GREAT})

    def test_rooms(self):
        self.tell(room, {
            ("a", "b"): 7, ("b", "a"): 7, ("b", "c"): 0, ("c", "b"): 7, ("c", "a"): GREAT - 5, ("a", "c"): 5,
        })

    def test_what_one_owes_the_other_owes_less(self):
        book = sample()
        for one, other in pairs(book):
            self.assertEqual(owes(book, one, other), 0 - owes(book, other, one))

    def test_great_numbers(self):
        lines = {("a", "b"): GREAT, ("a", "c"): GREAT, ("b", "a"): GREAT}
        book = Book(["a", "b", "c"], lines, {("a", "b"): GREAT, ("a", "c"): GREAT})
        self.assertEqual(room(book, "a", "b"), 0)
        self.assertEqual(room(book, "b", "a"), 2 * GREAT)
        self.assertEqual(standings(book), {"a": 2 * GREAT, "b": 0 - GREAT, "c": 0 - GREAT})


class Standings(unittest.TestCase):
    def test_standing(self):
        book = sample()
        self.assertEqual([standing(book, house) for house in "abcd"], [-2, 4, -2, 0])

    def test_standings_tell_all_houses_those_of_0_too(self):
        self.assertEqual(standings(sample()), {"a": -2, "b": 4, "c": -2, "d": 0})

    def test_standings_come_in_the_order_of_the_houses(self):
        self.assertEqual(list(standings(sample())), ["a", "b", "c", "d"])

    def test_standings_of_the_book_without_houses(self):
        self.assertEqual(standings(no_houses()), {})

    def test_standing_of_a_lone_house(self):
        book = joined(no_houses(), "a")
        self.assertEqual(standing(book, "a"), 0)
        self.assertEqual(standings(book), {"a": 0})

    def test_they_are_whole_numbers(self):
        for number in list(standings(sample()).values()) + [standing(sample(), "d")]:
            self.assertIs(type(number), int)

    def test_standings_that_are_told_are_the_askers_own(self):
        book = sample()
        first, second = standings(book), standings(book)
        self.assertIsNot(first, second)
        first["a"] = 100
        first.pop("b")
        self.assertEqual(second, {"a": -2, "b": 4, "c": -2, "d": 0})
        self.assertEqual(standings(book), second)
        self.assertEqual(standing(book, "a"), -2)


class Joining(unittest.TestCase):
    def test_a_house_joins(self):
        self.assertEqual(things.values(joined(no_houses(), "abcdefgh")), (["abcdefgh"], {}, {}))

    def test_houses_are_sorted_whatever_the_order_of_joining(self):
        book = no_houses()
        for house in ["b", "zz", "a", "ab", "z", "abcdefgh"]:
            book = joined(book, house)
        self.assertEqual(book.houses, ["a", "ab", "abcdefgh", "b", "z", "zz"])

    def test_it_has_no_lines_and_owes_nothing_and_the_others_stay(self):
        elder = sample()
        book = joined(elder, "bb")
        self.assertEqual(book.houses, ["a", "b", "bb", "c", "d"])
        self.assertEqual((book.lines, book.owed), (elder.lines, elder.owed))
        for house in "abcd":
            for call in PAIR_QUESTIONS:
                self.assertEqual((call(book, "bb", house), call(book, house, "bb")), (0, 0))
        self.assertEqual(standing(book, "bb"), 0)

    def test_all_names_join(self):
        for name in things.names():
            self.assertEqual(joined(Book(["q"], {}, {}), name).houses, sorted(["q", name]))

    def test_nine_houses_are_not_refused(self):
        book = no_houses()
        for house in "ihgfedcba":
            book = joined(book, house)
        self.assertEqual(book.houses, list("abcdefghi"))

    def test_what_is_no_name(self):
        for book in [no_houses(), sample()]:
            for place, thing in enumerate(things.no_names()):
                with self.subTest(place=place):
                    before = things.values(book)
                    self.assertIs(things.refusal(joined, book, thing), NoHouse)
                    self.assertEqual(things.values(book), before)

    def test_a_house_of_the_book(self):
        for house in "abcd":
            book = sample()
            self.assertIs(things.refusal(joined, book, house), Twice)
            self.assertEqual(things.values(book), things.values(sample()))

    def test_the_elder_book_stays_and_shares_nothing(self):
        elder = sample()
        book = joined(elder, "e")
        self.assertIsNot(book, elder)
        self.assertEqual(things.values(elder), things.values(sample()))
        book.houses.append("f")
        book.lines.clear()
        book.owed.clear()
        self.assertEqual(things.values(elder), things.values(sample()))


class Lining(unittest.TestCase):
    def test_a_line_is_set(self):
        book = lined(sample(), "a", "c", 6)
        wanted = dict(sample().lines)
        wanted[("a", "c")] = 6
        self.assertEqual(things.values(book), (sample().houses, wanted, sample().owed))

    def test_only_that_way_round(self):
        book = lined(joined(joined(no_houses(), "a"), "b"), "b", "a", 9)
        self.assertEqual(book.lines, {("b", "a"): 9})
        self.assertEqual((line_of(book, "b", "a"), line_of(book, "a", "b")), (9, 0))

    def test_in_the_place_of_the_old_one(self):
        for line in [3, 4, 10, 11, GREAT - 1, GREAT]:
            book = lined(sample(), "a", "b", line)
            self.assertEqual(line_of(book, "a", "b"), line)
            self.assertEqual(room(book, "a", "b"), line - 3)
            self.assertEqual(owes(book, "a", "b"), 3)

    def test_a_line_of_0_in_the_place_of_an_old_one_does_not_stand(self):
        wanted = dict(sample().lines)
        wanted.pop(("b", "a"))
        book = lined(sample(), "b", "a", 0)
        self.assertEqual(book.lines, wanted)
        self.assertEqual(line_of(book, "b", "a"), 0)
        self.assertEqual(room(book, "b", "a"), 3)

    def test_a_line_of_0_where_there_was_none_does_not_stand(self):
        book = lined(sample(), "a", "d", 0)
        self.assertEqual(things.values(book), things.values(sample()))

    def test_the_same_line_again(self):
        self.assertEqual(things.values(lined(sample(), "a", "b", 10)), things.values(sample()))

    def test_one_and_other_that_are_no_houses(self):
        for place, thing in enumerate(no_houses_of(sample())):
            for one, other in [(thing, "a"), ("a", thing), (thing, thing)]:
                for line in [5, 0, None, -1]:
                    with self.subTest(place=place, line=line):
                        book = sample()
                        self.assertIs(things.refusal(lined, book, one, other, line), NoHouse)
                        self.assertEqual(things.values(book), things.values(sample()))

    def test_the_same_house_twice(self):
        for house in "abcd":
            for line in [5, 0, True, 10 ** 59, "a"]:
                self.assertIs(things.refusal(lined, sample(), house, house, line), NoHouse)

    def test_the_book_without_houses(self):
        self.assertIs(things.refusal(lined, no_houses(), "a", "b", 5), NoHouse)
        self.assertIs(things.refusal(lined, no_houses(), "a", "b", None), NoHouse)

    def test_what_is_no_line(self):
        for place, thing in enumerate(things.no_lines()):
            for one, other in [("a", "b"), ("b", "a"), ("a", "d"), ("b", "c")]:
                with self.subTest(place=place, one=one, other=other):
                    book = sample()
                    self.assertIs(things.refusal(lined, book, one, other, thing), NoAmount)
                    self.assertEqual(things.values(book), things.values(sample()))

    def test_a_line_below_what_is_owed(self):
        for one, other, line in [("a", "b", 0), ("a", "b", 2), ("b", "c", 6), ("c", "a", 4), ("c", "a", 0)]:
            book = sample()
            self.assertIs(things.refusal(lined, book, one, other, line), TooLow)
            self.assertEqual(things.values(book), things.values(sample()))

    def test_a_line_of_just_what_is_owed(self):
        for one, other, line in [("a", "b", 3), ("b", "c", 7), ("c", "a", 5)]:
            book = lined(sample(), one, other, line)
            self.assertEqual(line_of(book, one, other), line)
            self.assertEqual(room(book, one, other), 0)

    def test_the_elder_book_stays_and_shares_nothing(self):
        for line in [0, 4, 5]:
            elder = sample()
            book = lined(elder, "b", "a", line)
            self.assertIsNot(book, elder)
            self.assertEqual(things.values(elder), things.values(sample()))
            book.houses.append("f")
            book.lines.clear()
            book.owed.clear()
            self.assertEqual(things.values(elder), things.values(sample()))


class QuestionsRefused(unittest.TestCase):
    def test_pairs_of_what_are_no_houses(self):
        for call in PAIR_QUESTIONS:
            for place, thing in enumerate(no_houses_of(sample())):
                for one, other in [(thing, "a"), ("a", thing), (thing, thing)]:
                    with self.subTest(call=call.__name__, place=place):
                        self.assertIs(things.refusal(call, sample(), one, other), NoHouse)

    def test_the_same_house_twice(self):
        for call in PAIR_QUESTIONS:
            for house in "abcd":
                self.assertIs(things.refusal(call, sample(), house, house), NoHouse)

    def test_the_standing_of_what_is_no_house(self):
        for place, thing in enumerate(no_houses_of(sample())):
            with self.subTest(place=place):
                self.assertIs(things.refusal(standing, sample(), thing), NoHouse)

    def test_the_book_without_houses(self):
        for call in PAIR_QUESTIONS:
            self.assertIs(things.refusal(call, no_houses(), "a", "b"), NoHouse)
        self.assertIs(things.refusal(standing, no_houses(), "a"), NoHouse)


class NothingChanges(unittest.TestCase):
    def test_questions_leave_the_book_as_it_is(self):
        book = sample()
        for one, other in pairs(book):
            for call in PAIR_QUESTIONS:
                call(book, one, other)
            standing(book, one)
        standings(book)
        self.assertEqual(things.values(book), things.values(sample()))

    def test_what_is_refused_stays_as_it_was(self):
        book, some_list, some_dict = sample(), ["a", "b"], {"a": "b"}
        for call in PAIR_QUESTIONS:
            things.refusal(call, book, some_list, some_dict)
        things.refusal(standing, book, some_list)
        things.refusal(joined, book, some_dict)
        things.refusal(lined, book, some_list, some_dict, some_dict)
        things.refusal(lined, book, "a", "b", some_list)
        self.assertEqual((some_list, some_dict), (["a", "b"], {"a": "b"}))
        self.assertEqual(things.values(book), things.values(sample()))


class Rows(unittest.TestCase):
    """Long rows of joinings and lines, held against a plain table of what was set."""

    def step(self, chance, book, houses, lines):
        if chance.random() < 0.3:
            house = chance.choice("abcdefgh")
            if house in houses:
                self.assertIs(things.refusal(joined, book, house), Twice)
                return book
            houses.append(house)
            return joined(book, house)
        one, other = chance.choice("abcdefgh"), chance.choice("abcdefgh")
        line = chance.choice([0, 0, 1, 5, GREAT])
        if one == other or one not in houses or other not in houses:
            self.assertIs(things.refusal(lined, book, one, other, line), NoHouse)
            return book
        lines[(one, other)] = line
        return lined(book, one, other, line)

    def test_rows(self):
        for seed in range(20):
            chance, book, houses, lines, elders = random.Random(seed), no_houses(), [], {}, []
            for step in range(80):
                elders.append((book, things.values(book)))
                book = self.step(chance, book, houses, lines)
                standing_lines = {pair: line for pair, line in lines.items() if line != 0}
                self.assertEqual(things.values(book), (sorted(houses), standing_lines, {}))
            for elder, before in elders:
                self.assertEqual(things.values(elder), before)


if __name__ == "__main__":
    unittest.main()
