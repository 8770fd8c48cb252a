"""Promise 20, and 2, 3, 5 and 6 over it: houses that are freed, and houses that leave."""

import copy
import itertools
import random
import unittest

import things
import webs
from trustways.books import joined, lined, no_houses
from trustways.chains import sent
from trustways.errors import NoHouse, StillOwes, TooLow
from trustways.kin import are_kin
from trustways.leaving import freed, gone

GREAT = webs.GREAT


def sample():
    """Ann owes bob 3 through cat, who stands at 0; dan owes eve 1."""
    lines = {
        ("ann", "cat"): 4, ("cat", "bob"): 5, ("ann", "bob"): 2, ("bob", "ann"): 1, ("ann", "dan"): 1,
        ("dan", "bob"): 1, ("dan", "eve"): 1, ("cat", "dan"): 2, ("eve", "cat"): 7,
    }
    owed = {("ann", "cat"): 3, ("cat", "bob"): 3, ("dan", "eve"): 1}
    return webs.made(["ann", "bob", "cat", "dan", "eve", "fay"], lines, owed)


def bound_sample():
    """The sample with a line less, so that not all that ann owes bob can go round cat."""
    return lined(sample(), "ann", "bob", 1)


def through_all():
    """All lines as great as can be, and hal owed by ann and owing bob as much as can be."""
    lines = {pair: GREAT for pair in itertools.permutations(webs.HOUSES, 2)}
    return webs.made(webs.HOUSES, lines, {("ann", "hal"): GREAT, ("hal", "bob"): GREAT})


def with_a_free_standing(count, most_houses=5):
    """Chance books with a house of each of them whose standing is 0."""
    for seed in range(count):
        chance = random.Random(seed)
        book = webs.some_book(chance, chance.randint(3, most_houses), chance.choice([1, 2, 4]))
        for house in book.houses:
            if webs.standing_of(book, house) == 0:
                yield chance, book, house


def excess(book, house, some):
    """By how much the standings of some houses are more than their lines out, those to the house left out."""
    standing = sum(webs.standing_of(book, one) for one in some)
    return standing - webs.lines_from(book, some) + sum(book.lines.get((one, house), 0) for one in some)


def is_barred(book, house):
    others = [other for other in book.houses if other != house]
    return any(excess(book, house, some) > 0 for some in webs.sets_of(others))


def owes_nobody(owed, house):
    return all(number == 0 for pair, number in owed.items() if house in pair)


def numbers_without(numbers, house):
    return {pair: number for pair, number in numbers.items() if house not in pair}


def no_houses_of_sample():
    return things.names() + things.no_names()


class Checks(unittest.TestCase):
    def check_freed(self, book, house):
        """That turns or a bar are told, and that they are right; True where they are turns."""
        before = things.values(book)
        told = freed(book, house)
        self.assertEqual(things.values(book), before)
        self.assertIs(type(told), tuple)
        turns, bar = told
        if turns is None:
            webs.check_set(self, book, bar)
            self.assertNotIn(house, bar)
            self.assertGreater(excess(book, house, bar), 0)
            return False
        self.assertIs(bar, None)
        behind = webs.check_turns(self, book, turns)
        self.assertEqual(numbers_without(behind.owed, house), behind.owed)
        return True

    def check_gone(self, book, house):
        before = things.values(book)
        told = gone(book, house)
        self.assertEqual(things.values(book), before)
        self.assertIs(type(told), tuple)
        behind, turns = told
        free = webs.check_turns(self, book, turns)
        webs.check_book(self, behind)
        self.assertEqual(behind.houses, [other for other in book.houses if other != house])
        self.assertEqual(behind.lines, numbers_without(book.lines, house))
        # All of what is owed behind the turns: the house has none of it.
        self.assertEqual(behind.owed, free.owed)
        wanted = webs.standings_of(book)
        wanted.pop(house)
        self.assertEqual(webs.standings_of(behind), wanted)
        return behind, turns


class Freed(Checks):
    def test_a_house_without_debts(self):
        for book, house in [(sample(), "fay"), (joined(no_houses(), "ann"), "ann"), (webs.made("ab", {}, {}), "b")]:
            self.assertTrue(self.check_freed(book, house))

    def test_a_house_that_rings_free(self):
        self.assertTrue(self.check_freed(sample(), "cat"))
        self.assertNotEqual(freed(sample(), "cat")[0], [])

    def test_a_house_that_none_frees(self):
        self.assertFalse(self.check_freed(bound_sample(), "cat"))

    def test_a_bar_of_one_house(self):
        lines = {("ann", "bob"): 2, ("bob", "cat"): 3, ("ann", "cat"): 1, ("cat", "dan"): 9}
        book = webs.made(["ann", "bob", "cat", "dan"], lines, {("ann", "bob"): 2, ("bob", "cat"): 2})
        self.assertEqual(excess(book, "bob", ["ann"]), 1)
        self.assertEqual(freed(book, "bob")[0], None)
        self.assertIn(freed(book, "bob")[1], [["ann"], ["ann", "dan"]])

    def test_a_bar_of_more_houses_than_one(self):
        lines = {("ann", "bob"): 9, ("bob", "ann"): 9, ("bob", "hub"): 9, ("hub", "cat"): 9, ("bob", "cat"): 2}
        book = webs.made(["ann", "bob", "cat", "hub"], lines, {("ann", "bob"): 3, ("bob", "hub"): 3, ("hub", "cat"): 3})
        self.assertEqual(freed(book, "hub"), (None, ["ann", "bob"]))
        self.assertTrue(self.check_freed(sent(book, ["cat", "hub", "bob"], 1), "hub"))

    def test_lines_to_the_house_do_not_help(self):
        book = lined(lined(bound_sample(), "ann", "cat", GREAT), "cat", "bob", GREAT)
        self.assertFalse(self.check_freed(book, "cat"))
        self.assertTrue(self.check_freed(lined(book, "ann", "bob", 2), "cat"))

    def test_freed_just_where_a_kin_book_has_it_free(self):
        counts = {True: 0, False: 0}
        for chance, book in webs.countable_books(400):
            kin = webs.debts_in_kin_books(book)
            for house in book.houses:
                if webs.standing_of(book, house) == 0:
                    wanted = any(owes_nobody(owed, house) for owed in kin)
                    self.assertIs(self.check_freed(book, house), wanted)
                    self.assertIs(is_barred(book, house), not wanted)
                    counts[wanted] += not owes_nobody(webs.debts(book), house)
        # Else the books would be too plain to tell anything of one of the two.
        self.assertGreater(min(counts.values()), 20)

    def test_chance_books_against_all_sets(self):
        counts = {True: 0, False: 0}
        for chance, book, house in with_a_free_standing(150, 7):
            free = self.check_freed(book, house)
            self.assertIs(is_barred(book, house), not free)
            counts[free] += not owes_nobody(webs.debts(book), house)
        self.assertGreater(min(counts.values()), 20)

    def test_great_numbers(self):
        self.assertTrue(self.check_freed(through_all(), "hal"))
        self.assertTrue(self.check_freed(lined(through_all(), "ann", "bob", 0), "hal"))
        lines = {("ann", "cat"): GREAT, ("cat", "bob"): GREAT, ("ann", "bob"): GREAT}
        book = webs.made(["ann", "bob", "cat"], lines, {("ann", "cat"): GREAT, ("cat", "bob"): GREAT})
        self.assertTrue(self.check_freed(book, "cat"))
        self.assertEqual(freed(lined(book, "ann", "bob", GREAT - 1), "cat"), (None, ["ann"]))


class Gone(Checks):
    def test_a_house_without_debts(self):
        self.assertEqual(self.check_gone(sample(), "fay")[0].houses, ["ann", "bob", "cat", "dan", "eve"])

    def test_the_last_house(self):
        behind, turns = self.check_gone(joined(no_houses(), "ann"), "ann")
        webs.check_same(self, behind, no_houses())
        self.assertEqual(turns, [])

    def test_one_of_two_houses(self):
        book = webs.made(["ann", "bob"], {("ann", "bob"): 3, ("bob", "ann"): 4}, {})
        webs.check_same(self, self.check_gone(book, "ann")[0], joined(no_houses(), "bob"))
        webs.check_same(self, self.check_gone(book, "bob")[0], joined(no_houses(), "ann"))

    def test_a_house_that_rings_free(self):
        behind, turns = self.check_gone(sample(), "cat")
        self.assertNotEqual(turns, [])
        self.assertEqual(behind.lines, {
            ("ann", "bob"): 2, ("bob", "ann"): 1, ("ann", "dan"): 1, ("dan", "bob"): 1, ("dan", "eve"): 1,
        })

    def test_it_may_join_anew_then_without_lines(self):
        behind = joined(gone(sample(), "cat")[0], "cat")
        webs.check_book(self, behind)
        self.assertEqual(numbers_without(behind.lines, "cat"), behind.lines)

    def test_gone_just_where_freed(self):
        for chance, book, house in with_a_free_standing(80):
            if freed(book, house)[0] is None:
                self.assertIs(things.refusal(gone, book, house), TooLow)
            else:
                self.check_gone(book, house)

    def test_great_numbers(self):
        self.check_gone(through_all(), "hal")
        self.check_gone(lined(through_all(), "ann", "bob", 0), "hal")

    def test_kin_books_are_refused_alike_and_stay_kin(self):
        done = 0
        for chance, book, house in with_a_free_standing(60):
            other = webs.rolled(chance, book, 9)
            wanted = things.refusal(gone, book, house)
            self.assertIs(things.refusal(gone, other, house), wanted)
            self.assertEqual(freed(other, house)[0] is None, freed(book, house)[0] is None)
            if wanted is None:
                self.assertIs(are_kin(gone(book, house)[0], gone(other, house)[0]), True)
                done += 1
        self.assertGreater(done, 20)


class Refusals(unittest.TestCase):
    def refused(self, wanted, book, house):
        before = things.values(book)
        self.assertIs(things.refusal(gone, book, house), wanted)
        if wanted is not TooLow:
            self.assertIs(things.refusal(freed, book, house), wanted)
        self.assertEqual(things.values(book), before)

    def test_what_is_no_house(self):
        for place, thing in enumerate(no_houses_of_sample()):
            for book in [sample(), no_houses()]:
                with self.subTest(place=place):
                    self.refused(NoHouse, book, thing)
        self.refused(NoHouse, no_houses(), "ann")
        self.refused(NoHouse, sample(), ["cat"])
        self.refused(NoHouse, sample(), ("cat",))

    def test_a_standing_that_is_not_0(self):
        for house in ["ann", "bob", "dan", "eve"]:
            self.refused(StillOwes, sample(), house)

    def test_standings_just_beside_0(self):
        book = webs.made(["ann", "bob", "cat"], {("ann", "bob"): 9, ("bob", "cat"): 9}, {("ann", "bob"): 4})
        self.refused(StillOwes, sent(book, ["bob", "cat"], 3), "bob")
        self.refused(StillOwes, sent(book, ["bob", "cat"], 5), "bob")
        self.refused(TooLow, sent(book, ["bob", "cat"], 4), "bob")

    def test_still_owes_comes_ahead_of_too_low(self):
        # No turns could free these two either.
        book = webs.made(["ann", "bob"], {("ann", "bob"): 4}, {("ann", "bob"): 1})
        self.refused(StillOwes, book, "ann")
        self.refused(StillOwes, book, "bob")

    def test_no_turns_free_it(self):
        self.refused(TooLow, bound_sample(), "cat")

    def test_great_standings(self):
        for house in ["ann", "bob"]:
            self.refused(StillOwes, through_all(), house)


class TheSameEachTime(unittest.TestCase):
    def test_for_equal_books(self):
        for chance, book, house in with_a_free_standing(60):
            self.assertEqual(freed(book, house), freed(webs.again(book), house))
            if freed(book, house)[0] is not None:
                first, second = gone(book, house), gone(webs.again(book), house)
                self.assertEqual(first[1], second[1])
                webs.check_same(self, first[0], second[0])


class TheAskersOwn(unittest.TestCase):
    def test_turns(self):
        book = sample()
        first, second = freed(book, "cat"), freed(book, "cat")
        before = copy.deepcopy(second)
        webs.check_own(self, [second[0]] + [ring for ring, amount in second[0]])
        first[0][0][0].clear()
        first[0].clear()
        self.assertEqual(second, before)
        webs.check_same(self, book, sample())

    def test_a_bar(self):
        first, second = freed(bound_sample(), "cat"), freed(bound_sample(), "cat")
        before = copy.deepcopy(second)
        first[1].clear()
        self.assertEqual(second, before)

    def test_a_book_without_the_house(self):
        for house in ["cat", "fay"]:
            book = sample()
            first, second = gone(book, house), gone(book, house)
            before = (things.values(second[0]), copy.deepcopy(second[1]))
            webs.check_own(self, [second[1]] + [ring for ring, amount in second[1]])
            for ring, amount in first[1]:
                ring.clear()
            first[1].append(1)
            self.assertEqual(things.values(first[0]), before[0])
            first[0].houses.clear()
            first[0].lines.clear()
            first[0].owed.clear()
            self.assertEqual((things.values(second[0]), second[1]), before)
            webs.check_same(self, book, sample())


if __name__ == "__main__":
    unittest.main()
