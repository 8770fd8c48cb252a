"""Promises 16 and 17, and 2, 3, 5 and 6 over them: the lines out of some houses, and wished standings."""

import copy
import itertools
import random
import unittest

import things
import webs
from trustways.books import joined, no_houses, standings
from trustways.errors import NoWish
from trustways.roads import rooms_out
from trustways.wishes import lines_out, met

GREAT = webs.GREAT


def sample():
    """Ann and bob trust one another with 5, and out of the two there is a line of 2 alone."""
    lines = {("ann", "bob"): 5, ("bob", "ann"): 5, ("bob", "cat"): 2, ("cat", "dan"): 4, ("dan", "ann"): 3}
    owed = {("ann", "bob"): 1, ("cat", "dan"): 2, ("dan", "ann"): 2}
    return webs.made(["ann", "bob", "cat", "dan"], lines, owed)


def fullest():
    return webs.made(webs.HOUSES, {pair: GREAT for pair in itertools.permutations(webs.HOUSES, 2)}, {})


def wish_of(ann, bob, cat, dan):
    return {"ann": ann, "bob": bob, "cat": cat, "dan": dan}


def excess(book, wish, some):
    """By how much the wished standings of some houses are more than the lines out of them."""
    return sum(wish[house] for house in some) - webs.lines_from(book, some)


def barring(book, wish):
    return [some for some in webs.sets_of(book.houses) if excess(book, wish, some) > 0]


def some_wish(chance, book):
    """A wish that is met, or by chance one beside such a one."""
    wish = webs.standings_of(webs.stirred(chance, book, 12))
    for step in range(chance.choice([0, 0, 1, 2, 5])):
        up, down = chance.sample(book.houses, 2)
        wish[up] += 1
        wish[down] -= 1
    return wish


class LinesOut(unittest.TestCase):
    def test_some_houses(self):
        for some, wanted in [
            (["ann"], 5), (["bob"], 7), (["cat"], 4), (["dan"], 3), (["ann", "bob"], 2), (["ann", "cat"], 9),
            (["bob", "cat", "dan"], 8), (["ann", "bob", "cat"], 4),
        ]:
            told = lines_out(sample(), some)
            self.assertEqual(told, wanted)
            self.assertIs(type(told), int)
            self.assertEqual(lines_out(sample(), some[::-1]), wanted)

    def test_no_houses_and_all_houses(self):
        self.assertEqual(lines_out(sample(), []), 0)
        self.assertEqual(lines_out(sample(), ["ann", "bob", "cat", "dan"]), 0)
        self.assertEqual(lines_out(no_houses(), []), 0)
        self.assertEqual(lines_out(joined(no_houses(), "ann"), ["ann"]), 0)

    def test_all_sets_of_chance_books(self):
        for seed in range(40):
            chance = random.Random(seed)
            book = webs.some_book(chance, chance.randint(2, 6), chance.choice([1, 5, GREAT]))
            for some in webs.sets_of(book.houses):
                told = lines_out(book, webs.shuffled(chance, some))
                self.assertEqual(told, webs.lines_from(book, some))
                self.assertEqual(rooms_out(book, some), told - sum(webs.standing_of(book, house) for house in some))

    def test_what_is_owed_makes_no_difference(self):
        for seed in range(10):
            chance = random.Random(seed)
            book = webs.some_book(chance, 5)
            other = webs.stirred(chance, book, 9)
            for some in webs.sets_of(book.houses):
                self.assertEqual(lines_out(book, some), lines_out(other, some))

    def test_great_numbers(self):
        self.assertEqual(lines_out(fullest(), ["ann"]), 7 * GREAT)
        self.assertEqual(lines_out(fullest(), webs.HOUSES[:4]), 16 * GREAT)

    def test_nothing_changes(self):
        book, some = sample(), ["cat", "ann"]
        lines_out(book, some)
        self.assertEqual(some, ["cat", "ann"])
        webs.check_same(self, book, sample())


class Checks(unittest.TestCase):
    def check_met(self, book, wish):
        """That a book or a bar is told, and which is right; True where it is a book."""
        before = (things.values(book), copy.deepcopy(wish))
        told = met(book, wish)
        self.assertEqual((things.values(book), wish), before)
        self.assertIs(type(told), tuple)
        found, bar = told
        if found is None:
            webs.check_set(self, book, bar)
            self.assertGreater(excess(book, wish, bar), 0)
            return False
        self.assertIs(bar, None)
        webs.check_book(self, found)
        self.assertEqual((found.houses, found.lines), (book.houses, book.lines))
        self.assertEqual(standings(found), wish)
        return True


class Met(Checks):
    def test_a_wish_of_noughts(self):
        for book in [sample(), webs.made(["ann", "bob"], {}, {}), fullest()]:
            self.assertTrue(self.check_met(book, {house: 0 for house in book.houses}))

    def test_the_standings_that_there_are(self):
        for seed in range(20):
            book = webs.some_book(random.Random(seed), 5, 5)
            self.assertTrue(self.check_met(book, standings(book)))

    def test_the_book_without_houses(self):
        self.assertTrue(self.check_met(no_houses(), {}))

    def test_a_lone_house(self):
        book = joined(no_houses(), "ann")
        self.assertTrue(self.check_met(book, {"ann": 0}))

    def test_just_met_and_one_beyond(self):
        book = webs.made(["ann", "bob"], {("ann", "bob"): 5, ("bob", "ann"): 3}, {("ann", "bob"): 1})
        for number in range(-3, 6):
            self.assertTrue(self.check_met(book, {"ann": number, "bob": 0 - number}))
        self.assertEqual(met(book, {"ann": 6, "bob": -6}), (None, ["ann"]))
        self.assertEqual(met(book, {"ann": -4, "bob": 4}), (None, ["bob"]))

    def test_a_bar_of_more_houses_than_one(self):
        self.assertTrue(self.check_met(sample(), wish_of(2, 0, 0, -2)))
        self.assertTrue(self.check_met(sample(), wish_of(-3, 5, -1, -1)))
        for wish in [wish_of(3, 0, -1, -2), wish_of(3, 0, 0, -3), wish_of(1, 2, 0, -3), wish_of(5, -2, 0, -3)]:
            self.assertEqual(barring(sample(), wish), [["ann", "bob"]])
            self.assertEqual(met(sample(), wish), (None, ["ann", "bob"]))

    def test_a_book_without_lines(self):
        book = webs.made(["ann", "bob", "cat"], {}, {})
        self.assertFalse(self.check_met(book, {"ann": 1, "bob": -1, "cat": 0}))
        self.assertFalse(self.check_met(book, {"ann": 0, "bob": -1, "cat": 1}))

    def test_what_is_owed_makes_no_difference_to_what_is_met(self):
        for seed in range(30):
            chance = random.Random(seed)
            book = webs.some_book(chance, 5, 3)
            wish = some_wish(chance, book)
            first = self.check_met(book, wish)
            self.assertIs(self.check_met(webs.stirred(chance, book, 9), wish), first)
            self.assertIs(self.check_met(webs.made(book.houses, book.lines, {}), wish), first)


class AllWishesOfSmallBooks(Checks):
    def test_met_just_where_some_book_stands_so_and_no_set_bars_it(self):
        counts = {True: 0, False: 0}
        for chance, book in webs.countable_books(70):
            able = [webs.standings_by(book.houses, owed) for owed in webs.debts_in_all_books(book)]
            for wish in [some_wish(chance, book) for turn in range(12)]:
                wanted = wish in able
                self.assertIs(self.check_met(book, wish), wanted)
                self.assertIs(barring(book, wish) == [], wanted)
                counts[wanted] += 1
        # Else the wishes would be too plain to tell anything of one of the two.
        self.assertGreater(min(counts.values()), 100)

    def test_every_wish_of_three_houses(self):
        book = webs.made(["ann", "bob", "cat"], {
            ("ann", "bob"): 2, ("bob", "ann"): 1, ("bob", "cat"): 1, ("cat", "ann"): 2,
        }, {("ann", "bob"): 1, ("cat", "ann"): 2})
        able = [webs.standings_by(book.houses, owed) for owed in webs.debts_in_all_books(book)]
        for ann, bob in itertools.product(range(-6, 7), repeat=2):
            wish = {"ann": ann, "bob": bob, "cat": 0 - ann - bob}
            self.assertIs(self.check_met(book, wish), wish in able)


class GreatNumbers(Checks):
    def test_the_greatest_lines(self):
        wish = {house: 0 - GREAT for house in webs.HOUSES}
        wish["dan"] = 7 * GREAT
        self.assertTrue(self.check_met(fullest(), wish))
        wish["dan"] += 1
        wish["eve"] -= 1
        self.assertFalse(self.check_met(fullest(), wish))

    def test_wishes_up_to_sixty_figures(self):
        for number in [10 ** 59, 10 ** 60 - 1]:
            for up, down in itertools.permutations(["ann", "dan", "hal"], 2):
                wish = {house: 0 for house in webs.HOUSES}
                wish.update({up: number, down: 0 - number})
                self.assertIs(self.check_met(fullest(), wish), number <= 7 * GREAT)

    def test_no_more_than_the_lines_can_carry(self):
        lines = {(one, other): GREAT for one, other in itertools.permutations(["ann", "bob", "cat"], 2)}
        book = webs.made(["ann", "bob", "cat"], lines, {("ann", "bob"): GREAT, ("ann", "cat"): GREAT})
        self.assertTrue(self.check_met(book, {"ann": -2 * GREAT, "bob": GREAT, "cat": GREAT}))
        self.assertTrue(self.check_met(book, {"ann": -2 * GREAT, "bob": 2 * GREAT, "cat": 0}))
        self.assertFalse(self.check_met(book, {"ann": -2 * GREAT, "bob": 2 * GREAT + 1, "cat": -1}))
        self.assertFalse(self.check_met(book, {"ann": -2 * GREAT - 1, "bob": GREAT + 1, "cat": GREAT}))

    def test_chance_books_of_eight_houses(self):
        for seed in range(12):
            chance = random.Random(seed)
            book = webs.some_book(chance, 8, chance.choice([3, GREAT]))
            wish = some_wish(chance, book)
            self.assertIs(self.check_met(book, wish), barring(book, wish) == [])


def other_keys():
    """Things that may be keys and are no houses of the sample."""
    hashed = [thing for thing in things.no_texts_no_numbers() if getattr(type(thing), "__hash__", None)]
    hashed = [thing for thing in hashed if not isinstance(thing, tuple)] + [(), ("ann",), ("ann", "bob")]
    return hashed + things.names() + things.texts_no_names() + ["Ann", "ann ", " ann", "annbob", "eve", 0, 1, -1]


def wrong_keys():
    told = []
    for key in other_keys():
        for house in sample().houses:
            wish = wish_of(0, 0, 0, 0)
            wish.pop(house)
            told.append(dict(wish))
            wish[key] = 0
            told.append(wish)
        told = told + [{**wish_of(0, 0, 0, 0), key: 0}, {**standings(sample()), key: 0}, {key: 0}]
    return told


def wrong_numbers():
    """Wishes of which one number is none, some of them such as come to 0 all the same."""
    told = []
    for number in things.no_texts_no_numbers() + things.names() + things.texts_no_names() + ["0", "1", "-1"]:
        for house in sample().houses:
            wish = wish_of(0, 0, 0, 0)
            wish[house] = number
            told.append(wish)
    told = told + [wish_of(True, -1, 0, 0), wish_of(-1, 0, 0, True), wish_of(False, 0, 0, 0), wish_of(1, -1, 0, False)]
    return told + [wish_of(1.0, -1, 0, 0), wish_of(0, 0, 1, -1.0), wish_of(True, -1.0, 0, 0)]


def wrong_sums():
    return [
        wish_of(1, 0, 0, 0), wish_of(0, -1, 0, 0), wish_of(1, 1, -1, 0), wish_of(2, -1, 0, 0),
        wish_of(-1, -1, -1, -1), wish_of(0, 0, 0, 10 ** 60 - 1), wish_of(10 ** 60 - 1, 1 - 10 ** 60, 0, 1),
        wish_of(10 ** 60 - 1, 0, 0, 2 - 10 ** 60),
    ]


def no_dicts():
    wish = wish_of(0, 0, 0, 0)
    return [thing for thing in things.no_names() + things.names() if thing.__class__ is not dict] + [
        list(wish), tuple(wish), list(wish.items()), wish.items(), wish.keys(), set(wish), [wish], (wish,), sample(),
        [0, 0, 0, 0], "ann", "ann bob cat dan", iter(wish),
    ]


class Refusals(unittest.TestCase):
    def refused(self, book, wish):
        before = things.values(book)
        self.assertIs(things.refusal(met, book, wish), NoWish)
        self.assertEqual(things.values(book), before)

    def test_what_is_no_dict(self):
        for place, thing in enumerate(no_dicts()):
            for book in [sample(), no_houses(), joined(no_houses(), "ann")]:
                with self.subTest(place=place):
                    self.refused(book, thing)

    def test_other_dicts(self):
        for wish in [{}, {"a": 1}, {"a": "b"}, {1: 1}, {"ann": 0}, {"ann": {}}, {"ann": wish_of(0, 0, 0, 0)}]:
            self.refused(sample(), wish)

    def test_a_house_too_few_or_too_many_and_other_keys(self):
        for place, wish in enumerate(wrong_keys()):
            with self.subTest(place=place):
                self.refused(sample(), wish)

    def test_numbers_that_are_none(self):
        for place, wish in enumerate(wrong_numbers()):
            with self.subTest(place=place):
                self.refused(sample(), wish)

    def test_numbers_that_do_not_come_to_0(self):
        for wish in wrong_sums():
            self.refused(sample(), wish)
        for number in [1, -1, 10 ** 60 - 1, True, False, None, "0", 0.0]:
            self.refused(joined(no_houses(), "ann"), {"ann": number})

    def test_the_book_without_houses(self):
        for wish in [{"ann": 0}, {None: 0}, {"": 0}, {0: 0}, None, [], (), "", 0, False]:
            self.refused(no_houses(), wish)


class TheSameEachTime(Checks):
    def test_for_equal_books_and_wishes(self):
        for seed in range(60):
            chance = random.Random(seed)
            book = webs.some_book(chance, chance.randint(2, 6), 3)
            wish = some_wish(chance, book)
            first = met(book, wish)
            second = met(webs.again(book), dict(reversed(list(wish.items()))))
            self.assertEqual(first[1], second[1])
            if first[0] is not None:
                webs.check_same(self, first[0], second[0])


class TheAskersOwn(Checks):
    def test_a_wish_may_be_changed_behind_the_call(self):
        wish = wish_of(1, 1, -1, -1)
        found = met(sample(), wish)[0]
        before = things.values(found)
        wish.clear()
        self.assertEqual(things.values(found), before)

    def test_a_book_that_is_told(self):
        for wish in [standings(sample()), wish_of(0, 0, 0, 0), wish_of(1, 1, -1, -1)]:
            book = sample()
            first, second = met(book, wish)[0], met(book, wish)[0]
            before = things.values(second)
            first.houses.clear()
            first.lines.clear()
            first.owed.clear()
            self.assertEqual(things.values(second), before)
            webs.check_same(self, book, sample())

    def test_a_bar_that_is_told(self):
        wish = wish_of(3, 0, 0, -3)
        first, second = met(sample(), wish), met(sample(), wish)
        first[1].clear()
        self.assertEqual(second, (None, ["ann", "bob"]))
        self.assertEqual(wish, wish_of(3, 0, 0, -3))


if __name__ == "__main__":
    unittest.main()
