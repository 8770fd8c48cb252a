"""Promise 15, and 2, 5 and 6 over it: kin books and the turns from one to the other."""

import copy
import itertools
import random
import unittest

import things
import webs
from trustways.books import joined, lined, no_houses
from trustways.chains import all_turned, sent, turned
from trustways.kin import are_kin, turns_to
from trustways.payments import most, paid

GREAT = webs.GREAT


def sample():
    lines = {pair: 5 for pair in itertools.permutations(["ann", "bob", "cat", "dan"], 2)}
    lines[("ann", "dan")] = 9
    return webs.made(["ann", "bob", "cat", "dan"], lines, {("ann", "bob"): 3, ("bob", "cat"): 2, ("dan", "ann"): 1})


def unlike_books():
    """Books that differ from the sample in one line, in standings or in one house."""
    shrunk = webs.made(["ann", "bob", "cat"], {}, {})
    return [
        lined(sample(), "ann", "dan", 8), lined(sample(), "ann", "dan", 10), lined(sample(), "cat", "bob", 0),
        lined(sample(), "dan", "cat", GREAT), sent(sample(), ["ann", "bob"], 1),
        sent(sample(), ["cat", "dan", "ann"], 1), joined(sample(), "eve"), joined(sample(), "a"), shrunk, no_houses(),
    ]


def kin_pairs(count):
    for seed in range(count):
        chance = random.Random(seed)
        book = webs.some_book(chance, chance.choice([3, 4, 5, 6, 6]), chance.choice([1, 3, 9, GREAT]))
        yield book, webs.rolled(chance, book, 20)


class AreKin(unittest.TestCase):
    def test_the_same_book(self):
        for book in [sample(), no_houses(), joined(no_houses(), "ann")]:
            self.assertIs(are_kin(book, book), True)
            self.assertIs(are_kin(book, webs.again(book)), True)

    def test_behind_a_ring_that_is_turned(self):
        self.assertIs(are_kin(sample(), turned(sample(), ["ann", "bob", "cat"], 1)), True)
        self.assertIs(are_kin(turned(sample(), ["ann", "dan", "cat", "bob"], 5), sample()), True)

    def test_books_that_differ(self):
        for place, book in enumerate(unlike_books()):
            with self.subTest(place=place):
                self.assertIs(are_kin(sample(), book), False)
                self.assertIs(are_kin(book, sample()), False)

    def test_the_same_numbers_for_other_houses(self):
        lines = {("ann", "bob"): 1, ("bob", "ann"): 1}
        first = webs.made(["ann", "bob"], lines, {("ann", "bob"): 1})
        second = webs.made(["ann", "bob"], lines, {("bob", "ann"): 1})
        self.assertIs(are_kin(first, second), False)
        self.assertIs(are_kin(first, webs.made(["ann", "cat"], {}, {})), False)

    def test_lines_that_are_alike_the_other_way_round(self):
        first = webs.made(["ann", "bob"], {("ann", "bob"): 1}, {})
        second = webs.made(["ann", "bob"], {("bob", "ann"): 1}, {})
        self.assertIs(are_kin(first, second), False)

    def test_houses_without_lines(self):
        first, second = joined(no_houses(), "ann"), joined(no_houses(), "bob")
        self.assertIs(are_kin(first, second), False)
        self.assertIs(are_kin(first, no_houses()), False)

    def test_paid_by_several_orders(self):
        for seed in range(30):
            chance = random.Random(seed)
            book = webs.some_book(chance, 5, 5)
            payer, taker = chance.sample(book.houses, 2)
            amount = most(book, payer, taker)[0]
            if amount > 0:
                first = paid(book, payer, taker, amount, webs.some_order(chance, book))[0]
                second = paid(book, payer, taker, amount, webs.some_order(chance, book))[0]
                self.assertIs(are_kin(first, second), True)
                self.assertIs(are_kin(first, book), False)
                webs.check_same(self, all_turned(first, turns_to(first, second)), second)

    def test_small_books_held_against_their_values(self):
        for seed in range(100):
            chance = random.Random(seed)
            book = webs.some_book(chance, 3, 2)
            other = webs.stirred(chance, book, 2)
            wanted = webs.standings_of(book) == webs.standings_of(other)
            self.assertIs(are_kin(book, other), wanted)
            self.assertEqual(turns_to(book, other) is not None, wanted)


class Turns(unittest.TestCase):
    def check(self, book, other):
        """That the turns lead there, are not too many, and that none of them leads away."""
        before = (things.values(book), things.values(other))
        turns = turns_to(book, other)
        self.assertIs(type(turns), list)
        count = len(book.houses)
        self.assertLessEqual(len(turns), count * (count - 1) // 2)
        behind = book
        for turn in turns:
            self.assertIs(type(turn), tuple)
            self.assertEqual([type(part) for part in turn], [list, int])
            ring, amount = turn
            behind = turned(behind, ring, amount)
            webs.check_book(self, behind)
            for one, two in webs.ring_steps(ring):
                self.assertLessEqual(webs.debt(behind, one, two), webs.debt(other, one, two))
        webs.check_same(self, behind, other)
        webs.check_same(self, all_turned(book, turns), other)
        self.assertEqual((things.values(book), things.values(other)), before)
        return turns

    def test_the_same_book_needs_none(self):
        for book in [sample(), no_houses(), joined(no_houses(), "ann"), webs.made(["ann", "bob"], {}, {})]:
            self.assertEqual(self.check(book, book), [])
            self.assertEqual(self.check(book, webs.again(book)), [])

    def test_one_turn(self):
        turns = self.check(sample(), turned(sample(), ["ann", "bob", "cat"], 2))
        self.assertEqual(len(turns), 1)
        self.assertEqual(turns[0][1], 2)
        self.assertIn(turns[0][0], [["ann", "bob", "cat"], ["bob", "cat", "ann"], ["cat", "ann", "bob"]])

    def test_a_turn_back(self):
        behind = turned(sample(), ["ann", "dan", "cat", "bob"], 5)
        self.check(sample(), behind)
        self.check(behind, sample())

    def test_no_kin_no_turns(self):
        for place, book in enumerate(unlike_books()):
            with self.subTest(place=place):
                self.assertIs(turns_to(sample(), book), None)
                self.assertIs(turns_to(book, sample()), None)

    def test_chance_books(self):
        several = 0
        for book, other in kin_pairs(200):
            several += len(self.check(book, other)) > 1
            self.check(other, book)
        # Else the books would be too plain to tell anything of several turns.
        self.assertGreater(several, 30)

    def test_books_of_eight_houses(self):
        pairs = list(itertools.permutations(webs.HOUSES, 2))
        for seed in range(5):
            chance = random.Random(seed)
            book = webs.made(webs.HOUSES, {pair: chance.randint(1, GREAT) for pair in pairs}, {})
            book = webs.stirred(chance, book, 30)
            self.check(book, webs.rolled(chance, book, 60))

    def test_great_numbers(self):
        lines = {pair: GREAT for pair in itertools.permutations(["ann", "bob", "cat"], 2)}
        owed = {("ann", "bob"): GREAT, ("bob", "cat"): GREAT, ("cat", "ann"): GREAT}
        book = webs.made(["ann", "bob", "cat"], lines, owed)
        other = turned(book, ["cat", "bob", "ann"], 2 * GREAT)
        self.assertEqual([amount for ring, amount in self.check(book, other)], [2 * GREAT])

    def test_the_same_each_time_for_equal_books(self):
        for book, other in kin_pairs(30):
            turns = turns_to(book, other)
            self.assertEqual(turns_to(book, other), turns)
            self.assertEqual(turns_to(webs.again(book), webs.again(other)), turns)

    def test_what_is_told_is_the_askers_own(self):
        book, other = sample(), turned(turned(sample(), ["ann", "bob", "cat"], 2), ["ann", "cat", "dan"], 3)
        first, second = turns_to(book, other), turns_to(book, other)
        before = copy.deepcopy(second)
        lists = [second] + [ring for ring, amount in second]
        self.assertEqual(len({id(each) for each in lists}), len(lists))
        first[0][0].clear()
        first.clear()
        self.assertEqual(second, before)
        webs.check_same(self, book, sample())
        turns_to(book, book).append(1)
        self.assertEqual(turns_to(book, book), [])


if __name__ == "__main__":
    unittest.main()
