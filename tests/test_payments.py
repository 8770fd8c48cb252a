"""Promises 12, 13 and 14, and 2, 5 and 6 over them: the most, and what is paid."""

import copy
import itertools
import random
import unittest

import things
import webs
from trustways.books import no_houses, standings
from trustways.chains import all_sent
from trustways.errors import NoAmount, NoHouse, TooMuch
from trustways.payments import most, paid
from trustways.roads import road, rooms_out

GREAT = webs.GREAT


def sample():
    """From ann to dan: 2 by bob, 3 by cat, and 1 more by bob and cat; nothing leads to or from eve."""
    lines = {
        ("ann", "bob"): 3, ("ann", "cat"): 3, ("bob", "cat"): 2, ("bob", "dan"): 2, ("cat", "dan"): 4,
    }
    return webs.made(["ann", "bob", "cat", "dan", "eve"], lines, {})


def crossed():
    """By the houses sorted the first road bars a second one, which gives back a step of it."""
    lines = {
        ("ann", "bob"): 1, ("bob", "eve"): 1, ("eve", "fay"): 1, ("ann", "cat"): 1, ("cat", "dan"): 1,
        ("dan", "eve"): 1, ("bob", "gus"): 1, ("gus", "hal"): 1, ("hal", "fay"): 1,
    }
    return webs.made(webs.HOUSES, lines, {})


def fullest():
    """All lines as great as can be, ann owed by all, hal owing all: 14 * GREAT from ann to hal."""
    pairs = list(itertools.permutations(webs.HOUSES, 2))
    owed = {(house, "ann"): GREAT for house in webs.HOUSES[1:]}
    owed.update({("hal", house): GREAT for house in webs.HOUSES[1:-1]})
    return webs.made(webs.HOUSES, {pair: GREAT for pair in pairs}, owed)


def small_books(count):
    for seed in range(count):
        chance = random.Random(seed)
        yield chance, webs.some_book(chance, chance.choice([2, 3, 4, 4, 5]), chance.choice([1, 3, 9]))


def no_houses_of_sample():
    return things.names() + things.no_names()


class Checks(unittest.TestCase):
    def check_kinds(self, ways):
        self.assertIs(type(ways), list)
        for way in ways:
            self.assertIs(type(way), tuple)
            self.assertEqual([type(part) for part in way], [list, int])

    def check_ways(self, book, payer, taker, amount, ways, order):
        """Each way is the road that the order brings first, with its room or what is still to be paid."""
        self.check_kinds(ways)
        rest = amount
        for chain, part in ways:
            self.assertEqual(chain, webs.first_road(book, [payer], [taker], order or book.houses))
            self.assertEqual(part, min(rest, webs.chain_room(book, chain)))
            book = all_sent(book, [(chain, part)])
            rest = rest - part
        self.assertEqual(rest, 0)
        return book

    def check_most(self, book, payer, taker, order):
        before = things.values(book)
        told = most(book, payer, taker, order)
        self.assertIs(type(told), tuple)
        amount, ways, bar = told
        self.assertIs(type(amount), int)
        self.assertEqual(amount, webs.least_way_out(book, payer, taker))
        self.assertEqual(amount, sum(part for chain, part in ways))
        behind = self.check_ways(book, payer, taker, amount, ways, order)
        self.assertIs(road(behind, [payer], [taker]), None)
        self.check_bar(book, payer, taker, amount, bar)
        self.assertEqual(things.values(book), before)
        return amount

    def check_bar(self, book, payer, taker, amount, bar):
        self.assertIs(type(bar), list)
        self.assertEqual(bar, sorted(set(bar)))
        self.assertTrue(all(house in book.houses for house in bar))
        self.assertIn(payer, bar)
        self.assertNotIn(taker, bar)
        self.assertEqual(rooms_out(book, bar), amount)

    def check_paid(self, book, payer, taker, amount, order):
        before = things.values(book)
        told = paid(book, payer, taker, amount, order)
        self.assertIs(type(told), tuple)
        behind, ways = told
        webs.check_book(self, behind)
        webs.check_same(self, behind, self.check_ways(book, payer, taker, amount, ways, order))
        wanted = webs.standings_of(book)
        wanted[payer] += amount
        wanted[taker] -= amount
        self.assertEqual(standings(behind), wanted)
        self.assertEqual((behind.houses, behind.lines), (book.houses, book.lines))
        self.assertEqual(things.values(book), before)


class Most(Checks):
    def tell(self, book, payer, taker, wanted_amount, wanted_ways):
        amount, ways, bar = most(book, payer, taker)
        self.assertEqual((amount, ways), (wanted_amount, wanted_ways))
        self.check_bar(book, payer, taker, amount, bar)

    def test_several_ways(self):
        self.tell(sample(), "ann", "dan", 6, [
            (["ann", "bob", "dan"], 2), (["ann", "cat", "dan"], 3), (["ann", "bob", "cat", "dan"], 1),
        ])
        self.tell(sample(), "bob", "dan", 4, [(["bob", "dan"], 2), (["bob", "cat", "dan"], 2)])

    def test_one_way(self):
        self.tell(sample(), "ann", "bob", 3, [(["ann", "bob"], 3)])
        self.tell(sample(), "cat", "dan", 4, [(["cat", "dan"], 4)])

    def test_no_way_at_all(self):
        for payer, taker in [("ann", "eve"), ("eve", "ann"), ("dan", "ann"), ("bob", "ann")]:
            self.tell(sample(), payer, taker, 0, [])

    def test_a_step_is_given_back(self):
        self.tell(crossed(), "ann", "fay", 2, [
            (["ann", "bob", "eve", "fay"], 1), (["ann", "cat", "dan", "eve", "bob", "gus", "hal", "fay"], 1),
        ])

    def test_what_is_owed_gives_room_back(self):
        book = webs.made(["ann", "bob"], {("ann", "bob"): 5}, {("ann", "bob"): 3})
        self.tell(book, "ann", "bob", 2, [(["ann", "bob"], 2)])
        self.tell(book, "bob", "ann", 3, [(["bob", "ann"], 3)])

    def test_all_pairs_of_small_books_by_several_orders(self):
        with_ways = 0
        for chance, book in small_books(60):
            for payer, taker in itertools.permutations(book.houses, 2):
                orders = [None, book.houses[::-1], webs.some_order(chance, book)]
                amounts = [self.check_most(book, payer, taker, order) for order in orders]
                self.assertEqual(amounts, amounts[:1] * 3)
                with_ways += amounts[0] > 0
        # Else the books would be too plain to tell anything of ways.
        self.assertGreater(with_ways, 100)

    def test_by_all_orders_the_most_is_the_same(self):
        for order in itertools.permutations(sample().houses):
            self.assertEqual(self.check_most(sample(), "ann", "dan", list(order)), 6)

    def test_great_numbers(self):
        book = fullest()
        amount, ways, bar = most(book, "ann", "hal")
        self.assertEqual(amount, 14 * GREAT)
        self.assertEqual(ways[0], (["ann", "hal"], 2 * GREAT))
        self.assertEqual([part for chain, part in ways], [2 * GREAT] * 7)
        self.check_bar(book, "ann", "hal", amount, bar)
        self.assertEqual(most(book, "hal", "ann")[0], 0)

    def test_great_and_chance_numbers(self):
        for seed in range(6):
            chance = random.Random(seed)
            book = webs.some_book(chance, 5, GREAT)
            for payer, taker in itertools.permutations(book.houses, 2):
                self.check_most(book, payer, taker, webs.some_order(chance, book))

    def test_books_of_eight_houses(self):
        for seed in range(6):
            chance = random.Random(seed)
            book = webs.some_book(chance, 8, 5)
            payer, taker = chance.sample(book.houses, 2)
            for order in [None, webs.some_order(chance, book)]:
                amount, ways, bar = most(book, payer, taker, order)
                self.assertEqual(amount, webs.least_way_out(book, payer, taker))
                self.assertEqual(amount, sum(part for chain, part in ways))
                webs.check_book(self, all_sent(book, ways))
                self.check_bar(book, payer, taker, amount, bar)


class Paid(Checks):
    def test_one_way(self):
        behind, ways = paid(sample(), "ann", "dan", 1)
        self.assertEqual(ways, [(["ann", "bob", "dan"], 1)])
        self.assertEqual(behind.owed, {("ann", "bob"): 1, ("bob", "dan"): 1})

    def test_the_last_way_carries_what_is_still_to_be_paid(self):
        self.assertEqual(paid(sample(), "ann", "dan", 2)[1], [(["ann", "bob", "dan"], 2)])
        self.assertEqual(paid(sample(), "ann", "dan", 3)[1], [(["ann", "bob", "dan"], 2), (["ann", "cat", "dan"], 1)])
        behind, ways = paid(sample(), "ann", "dan", 6)
        self.assertEqual(ways, most(sample(), "ann", "dan")[1])
        self.assertEqual(most(behind, "ann", "dan")[0], 0)

    def test_paid_back(self):
        behind = paid(sample(), "ann", "dan", 5)[0]
        self.assertEqual(paid(behind, "dan", "ann", 5)[0].owed, {})
        self.assertIs(things.refusal(paid, behind, "dan", "ann", 6), TooMuch)

    def test_all_pairs_and_amounts_of_small_books_by_several_orders(self):
        for chance, book in small_books(40):
            for payer, taker in itertools.permutations(book.houses, 2):
                order = chance.choice([None, book.houses[::-1], webs.some_order(chance, book)])
                greatest = webs.least_way_out(book, payer, taker)
                for amount in sorted({1, greatest - 1, greatest, chance.randint(1, greatest + 1)}):
                    if 1 <= amount <= greatest:
                        self.check_paid(book, payer, taker, amount, order)
                for amount in [greatest + 1, greatest + 2, 10 ** 60 - 1]:
                    self.assertIs(things.refusal(paid, book, payer, taker, amount, order), TooMuch)

    def test_by_another_order_other_ways_but_the_same_standings(self):
        order = ["dan", "cat", "bob", "ann", "eve"]
        first, first_ways = paid(sample(), "ann", "dan", 1)
        second, second_ways = paid(sample(), "ann", "dan", 1, order)
        self.assertEqual(second_ways, [(["ann", "cat", "dan"], 1)])
        self.assertNotEqual(first.owed, second.owed)
        self.assertEqual(standings(first), standings(second))

    def test_great_numbers(self):
        for amount in [1, 2 * GREAT, 2 * GREAT + 1, 10 ** 60 - 2, 10 ** 60 - 1]:
            behind, ways = paid(fullest(), "ann", "hal", amount)
            webs.check_book(self, behind)
            self.assertEqual(sum(part for chain, part in ways), amount)
            self.assertEqual(len(ways), -(-amount // (2 * GREAT)))
            self.assertEqual(standings(behind)["ann"], amount - 7 * GREAT)
            webs.check_same(self, behind, all_sent(fullest(), ways))
        for amount in [10 ** 60, 14 * GREAT]:
            self.assertIs(things.refusal(paid, fullest(), "ann", "hal", amount), NoAmount)

    def test_long_rows_of_payments(self):
        for seed in range(5):
            chance = random.Random(seed)
            book = webs.some_book(chance, 5, 6)
            for step in range(25):
                payer, taker = chance.sample(book.houses, 2)
                amount, order = chance.randint(1, 4), webs.some_order(chance, book)
                if amount > webs.least_way_out(book, payer, taker):
                    self.assertIs(things.refusal(paid, book, payer, taker, amount, order), TooMuch)
                else:
                    self.check_paid(book, payer, taker, amount, order)
                    book = paid(book, payer, taker, amount, order)[0]


class Orders(Checks):
    def test_left_out_and_none_stand_for_the_houses_sorted(self):
        for order in [None, sample().houses, ["a"] + sample().houses + ["zed"]]:
            self.assertEqual(most(sample(), "ann", "dan", order), most(sample(), "ann", "dan"))
            self.assertEqual(most(sample(), "ann", "dan", order=order), most(sample(), "ann", "dan"))
            for told in [paid(sample(), "ann", "dan", 4, order), paid(sample(), "ann", "dan", 4, order=order)]:
                behind, ways = paid(sample(), "ann", "dan", 4)
                self.assertEqual(told[1], ways)
                webs.check_same(self, told[0], behind)

    def test_another_order_with_names_that_are_no_houses(self):
        order = ["zed", "eve", "dan", "moe", "cat", "bob", "a", "ann"]
        self.assertEqual(most(sample(), "ann", "dan", order)[1], [
            (["ann", "cat", "dan"], 3), (["ann", "bob", "dan"], 2), (["ann", "bob", "cat", "dan"], 1),
        ])
        self.assertEqual(paid(sample(), "ann", "dan", 4, order)[1], [
            (["ann", "cat", "dan"], 3), (["ann", "bob", "dan"], 1),
        ])

    def test_the_same_each_time_for_equal_books(self):
        for chance, book in small_books(30):
            payer, taker = chance.sample(book.houses, 2)
            order = chance.choice([None, webs.some_order(chance, book)])
            told = most(book, payer, taker, order)
            self.assertEqual(most(book, payer, taker, order), told)
            self.assertEqual(most(webs.again(book), payer, taker, order), told)
            if told[0] > 0:
                first = paid(book, payer, taker, told[0], order)
                second = paid(webs.again(book), payer, taker, told[0], order)
                self.assertEqual(first[1], second[1])
                webs.check_same(self, first[0], second[0])


class Refusals(unittest.TestCase):
    def refused(self, wanted, call, *args):
        book = sample()
        self.assertIs(things.refusal(call, book, *args), wanted)
        webs.check_same(self, book, sample())

    def test_payer_and_taker_that_are_no_houses(self):
        for place, thing in enumerate(no_houses_of_sample()):
            for payer, taker in [(thing, "dan"), ("ann", thing), (thing, thing)]:
                with self.subTest(place=place):
                    self.refused(NoHouse, most, payer, taker)
                    for amount in [1, 100, 0, None, True, things.Failing()]:
                        self.refused(NoHouse, paid, payer, taker, amount)

    def test_the_same_house_twice(self):
        for house in sample().houses:
            self.refused(NoHouse, most, house, house)
            for amount in [1, 100, 0, None, 10 ** 60]:
                self.refused(NoHouse, paid, house, house, amount)

    def test_the_book_without_houses(self):
        self.assertIs(things.refusal(most, no_houses(), "ann", "bob"), NoHouse)
        self.assertIs(things.refusal(paid, no_houses(), "ann", "bob", 1), NoHouse)
        self.assertIs(things.refusal(paid, no_houses(), "ann", "bob", None), NoHouse)

    def test_what_is_no_amount_comes_ahead_of_too_much(self):
        for place, thing in enumerate(things.no_amounts()):
            with self.subTest(place=place):
                self.refused(NoAmount, paid, "ann", "dan", thing)
                self.refused(NoAmount, paid, "ann", "eve", thing)

    def test_too_much(self):
        for payer, taker, amount in [("ann", "dan", 7), ("ann", "eve", 1), ("eve", "ann", 1), ("dan", "ann", 1)]:
            self.refused(TooMuch, paid, payer, taker, amount)
            self.refused(TooMuch, paid, payer, taker, 10 ** 60 - 1)

    def test_they_are_the_same_by_an_order(self):
        order = ["eve", "dan", "cat", "bob", "ann", "zed"]
        self.refused(NoHouse, most, "zed", "ann", order)
        self.refused(NoHouse, paid, "ann", "zed", 1, order)
        self.refused(NoAmount, paid, "ann", "dan", 0, order)
        self.refused(TooMuch, paid, "ann", "dan", 7, order)


class NothingChanges(unittest.TestCase):
    def test_an_order_stays(self):
        order = ["zed", "eve", "dan", "cat", "bob", "ann"]
        most(sample(), "ann", "dan", order)
        paid(sample(), "ann", "dan", 4, order)
        things.refusal(paid, sample(), "ann", "dan", 7, order)
        self.assertEqual(order, ["zed", "eve", "dan", "cat", "bob", "ann"])

    def test_what_is_told_is_the_askers_own(self):
        book = sample()
        first, second = most(book, "ann", "dan"), most(book, "ann", "dan")
        before = copy.deepcopy(second)
        first[1][0][0].clear()
        first[1].clear()
        first[2].clear()
        self.assertEqual(second, before)
        self.assertEqual(most(book, "ann", "dan"), before)
        webs.check_same(self, book, sample())

    def test_what_is_paid_is_the_askers_own(self):
        book = sample()
        first, second = paid(book, "ann", "dan", 6), paid(book, "ann", "dan", 6)
        before, ways = things.values(second[0]), copy.deepcopy(second[1])
        first[1][0][0].clear()
        first[1].clear()
        self.assertEqual(things.values(first[0]), before)
        first[0].houses.clear()
        first[0].lines.clear()
        first[0].owed.clear()
        self.assertEqual((things.values(second[0]), second[1]), (before, ways))
        webs.check_same(self, book, sample())

    def test_no_two_lists_told_are_one(self):
        amount, ways, bar = most(sample(), "ann", "dan")
        lists = [ways, bar] + [chain for chain, part in ways]
        self.assertEqual(len({id(each) for each in lists}), len(lists))


if __name__ == "__main__":
    unittest.main()
