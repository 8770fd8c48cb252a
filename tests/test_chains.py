"""Promises 8, 9 and 10, and 2, 5 and 6 over them: chains, rings, what is sent and turned."""

import copy
import random
import unittest

import things
import webs
from trustways.books import no_houses, owes, standings
from trustways.chains import all_sent, all_turned, room_along, room_round, sent, turned
from trustways.errors import NoAmount, NoChain, NoRoom

GREAT = webs.GREAT


def sample():
    """Rooms: ann to bob 7, bob to ann 7, bob to cat 4, cat to bob 2, cat to ann 9, ann to cat 5, cat to dan 1."""
    lines = {
        ("ann", "bob"): 10, ("bob", "ann"): 4, ("bob", "cat"): 6, ("cat", "ann"): 14, ("cat", "dan"): 1,
    }
    return webs.made(["ann", "bob", "cat", "dan"], lines, {("ann", "bob"): 3, ("bob", "cat"): 2, ("cat", "ann"): 5})


def no_houses_of_sample():
    return things.names() + things.no_names()


def other_kinds():
    """Things that are no lists, some of them with houses in them."""
    return no_houses_of_sample() + [
        "ann", "annbob", "ann bob cat", ("ann", "bob"), ("ann", "bob", "cat"), {"ann": "bob", "bob": "cat"},
        {"ann": 1, "bob": 2, "cat": 3}, {"ann", "bob", "cat"}, iter(["ann", "bob", "cat"]),
        (["ann", "bob", "cat"],), {"ann": 1, "bob": 2, "cat": 3}.keys(), sample(),
    ]


def with_stranger():
    told = []
    for thing in no_houses_of_sample():
        for place in range(3):
            row = ["ann", "bob", "cat"]
            row[place] = thing
            told.append(row)
        told = told + [[thing], [thing, "ann"], ["ann", thing], ["ann", "bob", "cat", "dan", thing]]
    return told


def with_house_twice():
    return [
        ["ann", "ann"], ["ann", "bob", "ann"], ["ann", "ann", "bob"], ["ann", "bob", "bob"],
        ["ann", "bob", "cat", "ann"], ["ann", "bob", "cat", "bob"], ["dan", "ann", "bob", "cat", "dan"],
        ["ann", "ann", "ann"], ["ann", "bob", "cat", "dan"] * 2,
    ]


def no_rows():
    return other_kinds() + with_stranger() + with_house_twice() + [
        [], ["ann"], [[]], [["ann", "bob", "cat"]], ["ann bob"], [["ann"], ["bob"], ["cat"]], [("ann", "bob")],
    ]


def no_rings():
    return no_rows() + [["ann", "bob"], ["cat", "dan"]]


class Rooms(unittest.TestCase):
    def test_a_chain_of_two_houses(self):
        for one, other, wanted in [("ann", "bob", 7), ("bob", "ann", 7), ("cat", "bob", 2), ("dan", "ann", 0)]:
            told = room_along(sample(), [one, other])
            self.assertEqual(told, wanted)
            self.assertIs(type(told), int)

    def test_the_least_of_the_steps_wherever_it_stands(self):
        self.assertEqual(room_along(sample(), ["ann", "bob", "cat"]), 4)
        self.assertEqual(room_along(sample(), ["bob", "cat", "ann"]), 4)
        self.assertEqual(room_along(sample(), ["cat", "ann", "bob"]), 7)

    def test_a_chain_of_all_houses(self):
        self.assertEqual(room_along(sample(), ["ann", "bob", "cat", "dan"]), 1)
        self.assertEqual(room_along(sample(), ["dan", "cat", "bob", "ann"]), 0)

    def test_a_chain_does_not_lead_back(self):
        self.assertEqual(room_along(sample(), ["bob", "ann", "cat"]), 5)

    def test_a_ring_of_three_leads_from_the_last_to_the_first(self):
        for ring in [["ann", "bob", "cat"], ["bob", "cat", "ann"], ["cat", "ann", "bob"]]:
            self.assertEqual(room_round(sample(), ring), 4)
        self.assertEqual(room_round(sample(), ["ann", "cat", "bob"]), 2)
        self.assertIs(type(room_round(sample(), ["ann", "cat", "bob"])), int)

    def test_a_ring_of_all_houses(self):
        self.assertEqual(room_round(sample(), ["ann", "bob", "cat", "dan"]), 0)

    def test_all_chains_and_rings_of_small_books(self):
        for seed in range(12):
            book = webs.some_book(random.Random(seed), 4 + seed % 2)
            for row in webs.rows_of(book.houses, 2):
                self.assertEqual(room_along(book, row), webs.chain_room(book, row))
                if len(row) >= 3:
                    self.assertEqual(room_round(book, row), webs.ring_room(book, row))

    def test_great_numbers(self):
        lines = {("ann", "bob"): GREAT, ("bob", "ann"): GREAT, ("bob", "cat"): GREAT - 1, ("cat", "ann"): GREAT}
        book = webs.made(["ann", "bob", "cat"], lines, {("ann", "bob"): GREAT})
        self.assertEqual(room_along(book, ["bob", "ann"]), 2 * GREAT)
        self.assertEqual(room_along(book, ["bob", "cat", "ann"]), GREAT - 1)
        self.assertEqual(room_round(book, ["ann", "bob", "cat"]), 0)

    def test_nine_houses_are_not_refused(self):
        houses = list("abcdefghi")
        lines = {(houses[place - 1], houses[place]): 3 + place for place in range(9)}
        book = webs.made(houses, lines, {})
        self.assertEqual(room_along(book, houses), 4)
        self.assertEqual(room_round(book, houses), 3)
        self.assertEqual(len(turned(book, houses, 3).owed), 9)


class Moves(unittest.TestCase):
    def check(self, call, steps, book, row, amount):
        """What a step owes becomes more by the amount, all else stays, and what comes is a book."""
        before = things.values(book)
        wanted = webs.debts(book)
        for one, other in steps(row):
            wanted[(one, other)] += amount
            wanted[(other, one)] -= amount
        behind = call(book, row, amount)
        webs.check_book(self, behind)
        self.assertEqual(webs.debts(behind), wanted)
        self.assertEqual((behind.houses, behind.lines), (book.houses, book.lines))
        self.assertEqual(things.values(book), before)
        return behind

    def check_chain(self, book, chain, amount):
        behind = self.check(sent, webs.chain_steps, book, chain, amount)
        wanted = webs.standings_of(book)
        wanted[chain[0]] += amount
        wanted[chain[-1]] -= amount
        self.assertEqual(standings(behind), wanted)
        return behind

    def check_ring(self, book, ring, amount):
        behind = self.check(turned, webs.ring_steps, book, ring, amount)
        self.assertEqual(standings(behind), webs.standings_of(book))
        return behind

    def test_a_chain_of_two_houses(self):
        behind = self.check_chain(sample(), ["ann", "bob"], 2)
        self.assertEqual(behind.owed, {("ann", "bob"): 5, ("bob", "cat"): 2, ("cat", "ann"): 5})

    def test_a_chain_of_all_houses(self):
        behind = self.check_chain(sample(), ["ann", "bob", "cat", "dan"], 1)
        self.assertEqual(behind.owed, {
            ("ann", "bob"): 4, ("bob", "cat"): 3, ("cat", "ann"): 5, ("cat", "dan"): 1,
        })

    def test_a_debt_that_runs_the_other_way_becomes_less(self):
        self.assertEqual(self.check_chain(sample(), ["bob", "ann"], 2).owed[("ann", "bob")], 1)

    def test_a_debt_that_comes_to_just_0_does_not_stand(self):
        behind = self.check_chain(sample(), ["bob", "ann"], 3)
        self.assertEqual(behind.owed, {("bob", "cat"): 2, ("cat", "ann"): 5})
        self.assertEqual((owes(behind, "ann", "bob"), owes(behind, "bob", "ann")), (0, 0))

    def test_a_debt_that_turns_about_stands_the_other_way_alone(self):
        behind = self.check_chain(sample(), ["bob", "ann"], 4)
        self.assertEqual(behind.owed, {("bob", "ann"): 1, ("bob", "cat"): 2, ("cat", "ann"): 5})

    def test_a_ring_of_three(self):
        behind = self.check_ring(sample(), ["ann", "bob", "cat"], 4)
        self.assertEqual(behind.owed, {("ann", "bob"): 7, ("bob", "cat"): 6, ("cat", "ann"): 9})

    def test_a_ring_against_the_debts(self):
        behind = self.check_ring(sample(), ["cat", "bob", "ann"], 2)
        self.assertEqual(behind.owed, {("ann", "bob"): 1, ("cat", "ann"): 3})

    def test_a_ring_from_wherever_it_is_told(self):
        for ring in [["bob", "cat", "ann"], ["cat", "ann", "bob"]]:
            webs.check_same(self, turned(sample(), ring, 3), turned(sample(), ["ann", "bob", "cat"], 3))

    def test_the_room_itself_and_one_less_and_one_more(self):
        for seed in range(10):
            book = webs.some_book(random.Random(seed), 4, 3)
            for row in webs.rows_of(book.houses, 2):
                self.edges(sent, self.check_chain, webs.chain_room(book, row), book, row)
                if len(row) >= 3:
                    self.edges(turned, self.check_ring, webs.ring_room(book, row), book, row)

    def edges(self, call, check, free, book, row):
        for amount in [free - 1, free]:
            if amount >= 1:
                check(book, row, amount)
        before = things.values(book)
        for amount in [free + 1, free + 2, 10 ** 60 - 1]:
            self.assertIs(things.refusal(call, book, row, amount), NoRoom)
        self.assertEqual(things.values(book), before)

    def test_great_numbers(self):
        lines = {}
        for pair in [("ann", "bob"), ("bob", "cat"), ("cat", "ann")]:
            lines[pair] = GREAT
            lines[(pair[1], pair[0])] = GREAT
        book = webs.made(["ann", "bob", "cat"], lines, {("ann", "bob"): GREAT, ("bob", "cat"): GREAT})
        behind = self.check_chain(book, ["cat", "bob", "ann"], 2 * GREAT)
        self.assertEqual(behind.owed, {("cat", "bob"): GREAT, ("bob", "ann"): GREAT})
        self.check_chain(book, ["cat", "bob", "ann"], 2 * GREAT - 1)
        self.check_ring(book, ["cat", "bob", "ann"], GREAT)
        for amount in [2 * GREAT + 1, 10 ** 60 - 1]:
            self.assertIs(things.refusal(sent, book, ["cat", "bob", "ann"], amount), NoRoom)
        for amount in [GREAT + 1, 10 ** 60 - 1]:
            self.assertIs(things.refusal(turned, book, ["cat", "bob", "ann"], amount), NoRoom)

    def test_long_rows_of_moves(self):
        for seed in range(8):
            chance = random.Random(seed)
            book, elders = webs.some_book(chance, 5, chance.choice([3, GREAT])), []
            for step in range(40):
                elders.append((book, things.values(book)))
                row = webs.shuffled(chance, book.houses)[:chance.randint(3, 5)]
                if chance.random() < 0.5:
                    free, check = webs.chain_room(book, row), self.check_chain
                else:
                    free, check = webs.ring_room(book, row), self.check_ring
                if free > 0:
                    book = check(book, row, chance.randint(1, free))
            for elder, before in elders:
                self.assertEqual(things.values(elder), before)


class Refusals(unittest.TestCase):
    def refused(self, wanted, call, *args):
        book = sample()
        self.assertIs(things.refusal(call, book, *args), wanted)
        webs.check_same(self, book, sample())

    def test_rooms_of_what_is_no_chain_and_no_ring(self):
        for place, thing in enumerate(no_rows()):
            with self.subTest(place=place):
                self.refused(NoChain, room_along, thing)
        for place, thing in enumerate(no_rings()):
            with self.subTest(place=place):
                self.refused(NoChain, room_round, thing)

    def test_what_is_no_chain_comes_ahead_of_the_amount(self):
        for place, thing in enumerate(no_rows()):
            for amount in [1, 10 ** 60 - 1, 0, None, True, "ann", things.Failing()]:
                with self.subTest(place=place):
                    self.refused(NoChain, sent, thing, amount)

    def test_what_is_no_ring_comes_ahead_of_the_amount(self):
        for place, thing in enumerate(no_rings()):
            for amount in [1, 10 ** 60 - 1, 0, None, True, "ann", things.Failing()]:
                with self.subTest(place=place):
                    self.refused(NoChain, turned, thing, amount)

    def test_what_is_no_amount_comes_ahead_of_the_room(self):
        for place, thing in enumerate(things.no_amounts()):
            with self.subTest(place=place):
                self.refused(NoAmount, sent, ["ann", "bob"], thing)
                self.refused(NoAmount, sent, ["dan", "cat", "bob", "ann"], thing)
                self.refused(NoAmount, turned, ["ann", "bob", "cat"], thing)
                self.refused(NoAmount, turned, ["ann", "bob", "cat", "dan"], thing)

    def test_no_room(self):
        for chain, amount in [(["ann", "bob"], 8), (["dan", "ann"], 1), (["ann", "bob", "cat"], 5)]:
            self.refused(NoRoom, sent, chain, amount)
            self.refused(NoRoom, sent, chain, 10 ** 60 - 1)
        for ring, amount in [(["ann", "bob", "cat"], 5), (["ann", "bob", "cat", "dan"], 1)]:
            self.refused(NoRoom, turned, ring, amount)
            self.refused(NoRoom, turned, ring, 10 ** 60 - 1)

    def test_the_room_of_the_step_that_closes_the_ring_counts(self):
        self.refused(NoRoom, turned, ["bob", "ann", "cat"], 3)
        self.assertEqual(owes(turned(sample(), ["bob", "ann", "cat"], 2), "cat", "bob"), 0)

    def test_the_book_without_houses(self):
        for call in [room_along, room_round]:
            for thing in [[], ["ann", "bob", "cat"], None]:
                self.assertIs(things.refusal(call, no_houses(), thing), NoChain)
        for call in [sent, turned]:
            self.assertIs(things.refusal(call, no_houses(), ["ann", "bob", "cat"], 1), NoChain)

    def test_what_is_handed_in_stays(self):
        for call in [sent, turned]:
            for amount in [1, 0, 100]:
                row = ["ann", "bob", "cat"]
                things.refusal(call, sample(), row, amount)
                self.assertEqual(row, ["ann", "bob", "cat"])
        for call in [room_along, room_round]:
            row, twice, some_dict = ["ann", "bob", "cat"], ["ann", "bob", "ann"], {"ann": ["bob"]}
            for thing in [row, twice, some_dict]:
                things.refusal(call, sample(), thing)
            self.assertEqual((row, twice, some_dict), (["ann", "bob", "cat"], ["ann", "bob", "ann"], {"ann": ["bob"]}))


class Several(unittest.TestCase):
    def test_none_at_all(self):
        for call in [all_sent, all_turned]:
            book = sample()
            behind = call(book, [])
            webs.check_same(self, behind, book)
            behind.owed.clear()
            behind.lines.clear()
            behind.houses.append("zed")
            webs.check_same(self, book, sample())

    def test_none_at_all_in_the_book_without_houses(self):
        for call in [all_sent, all_turned]:
            self.assertEqual(things.values(call(no_houses(), [])), ([], {}, {}))

    def test_one_behind_the_other(self):
        ways = [(["ann", "bob", "cat"], 3), (["cat", "dan"], 1), (["cat", "bob"], 2)]
        wanted = sample()
        for chain, amount in ways:
            wanted = sent(wanted, chain, amount)
        webs.check_same(self, all_sent(sample(), ways), wanted)
        turns = [(["ann", "bob", "cat"], 4), (["ann", "cat", "bob"], 6)]
        wanted = turned(turned(sample(), turns[0][0], 4), turns[1][0], 6)
        webs.check_same(self, all_turned(sample(), turns), wanted)

    def test_each_in_the_book_behind_those_ahead_of_it(self):
        back, forth = (["dan", "cat"], 1), (["cat", "dan"], 1)
        webs.check_same(self, all_sent(sample(), [forth, back]), sample())
        self.assertIs(things.refusal(all_sent, sample(), [back, forth]), NoRoom)
        self.assertIs(things.refusal(all_sent, sample(), [forth, forth]), NoRoom)
        right, left = (["ann", "bob", "cat"], 4), (["cat", "bob", "ann"], 6)
        self.assertEqual(all_turned(sample(), [right, left]).owed, {("ann", "bob"): 1, ("cat", "ann"): 3})
        self.assertIs(things.refusal(all_turned, sample(), [left, right]), NoRoom)
        self.assertIs(things.refusal(all_turned, sample(), [right, right]), NoRoom)

    def check_first_refusal(self, call, good, wrong):
        for first in wrong:
            for second in wrong:
                ways = [good, first[0], good, second[0]]
                book, before = sample(), copy.deepcopy(ways)
                self.assertIs(things.refusal(call, book, ways), first[1])
                self.assertEqual(ways, before)
                webs.check_same(self, book, sample())

    def test_the_first_refusal_is_the_refusal_of_all(self):
        self.check_first_refusal(all_sent, (["ann", "bob"], 1), [
            ((["ann", "ann"], 1), NoChain), ((None, None), NoChain), ((["ann"], 0), NoChain),
            ((["bob", "cat"], 0), NoAmount), ((["dan", "ann"], True), NoAmount), ((["dan", "ann"], 1), NoRoom),
        ])
        self.check_first_refusal(all_turned, (["ann", "bob", "cat"], 1), [
            ((["ann", "bob"], 1), NoChain), ((None, None), NoChain), ((["ann", "bob", "ann"], 0), NoChain),
            ((["ann", "bob", "cat"], 0), NoAmount), ((["ann", "bob", "dan"], "1"), NoAmount),
            ((["ann", "bob", "cat"], 5), NoRoom), ((["ann", "bob", "dan"], 1), NoRoom),
        ])

    def test_wrong_things_within(self):
        for place, thing in enumerate(no_rows()):
            with self.subTest(place=place):
                self.assertIs(things.refusal(all_sent, sample(), [(thing, None)]), NoChain)
        for place, thing in enumerate(no_rings()):
            with self.subTest(place=place):
                self.assertIs(things.refusal(all_turned, sample(), [(thing, None)]), NoChain)
        for place, thing in enumerate(things.no_amounts()):
            with self.subTest(place=place):
                self.assertIs(things.refusal(all_sent, sample(), [(["dan", "ann"], thing)]), NoAmount)
                self.assertIs(things.refusal(all_turned, sample(), [(["dan", "ann", "bob"], thing)]), NoAmount)

    def test_three_hundred_ways(self):
        ways = [(["cat", "dan"], 1), (["dan", "cat"], 1)] * 150
        webs.check_same(self, all_sent(sample(), ways), sample())

    def test_what_is_handed_in_stays_and_is_not_kept(self):
        book, ways = sample(), [(["ann", "bob", "cat"], 3), (["cat", "dan"], 1)]
        behind = all_sent(book, ways)
        self.assertEqual(ways, [(["ann", "bob", "cat"], 3), (["cat", "dan"], 1)])
        webs.check_same(self, book, sample())
        before = things.values(behind)
        ways[0][0].reverse()
        ways.clear()
        self.assertEqual(things.values(behind), before)


class OwnBooks(unittest.TestCase):
    def test_the_elder_book_shares_nothing_with_the_one_made(self):
        for call, args in [
            (sent, (["ann", "bob"], 1)), (turned, (["ann", "bob", "cat"], 1)),
            (all_sent, ([(["ann", "bob"], 1)],)), (all_turned, ([(["ann", "bob", "cat"], 1)],)),
        ]:
            elder = sample()
            book = call(elder, *args)
            self.assertIsNot(book, elder)
            book.houses.append("zed")
            book.lines.clear()
            book.owed.clear()
            webs.check_same(self, elder, sample())


if __name__ == "__main__":
    unittest.main()
