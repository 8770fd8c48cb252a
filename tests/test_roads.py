"""Promises 11 and 14, and 2 over them: roads, what is reached, rooms out."""

import random
import unittest

import things
import webs
from trustways.books import no_houses
from trustways.roads import reached, road, rooms_out


def diamond():
    """From ann by bob or cat to dan or eve; fay stands alone; gus is reached from dan."""
    lines = {
        ("ann", "bob"): 1, ("ann", "cat"): 2, ("bob", "dan"): 3, ("cat", "dan"): 4, ("bob", "eve"): 5,
        ("cat", "eve"): 6, ("dan", "gus"): 7,
    }
    return webs.made(["ann", "bob", "cat", "dan", "eve", "fay", "gus"], lines, {})


class Roads(unittest.TestCase):
    def test_a_chain_of_two_houses(self):
        self.assertEqual(road(diamond(), ["ann"], ["bob"]), ["ann", "bob"])

    def test_none(self):
        for starts, goals in [(["ann"], ["fay"]), (["fay"], ["ann"]), (["bob"], ["ann"]), (["fay", "eve"], ["gus"])]:
            self.assertIs(road(diamond(), starts, goals), None)

    def test_no_starts_no_goals(self):
        for book in [diamond(), no_houses()]:
            self.assertIs(road(book, [], []), None)
        self.assertIs(road(diamond(), [], ["ann"]), None)
        self.assertIs(road(diamond(), ["ann"], []), None)
        self.assertIs(road(diamond(), diamond().houses, []), None)
        self.assertIs(road(diamond(), [], diamond().houses), None)

    def test_a_room_of_1_will_do_and_one_of_0_will_not(self):
        book = webs.made(["ann", "bob"], {("ann", "bob"): 2}, {("ann", "bob"): 1})
        self.assertEqual(road(book, ["ann"], ["bob"]), ["ann", "bob"])
        self.assertEqual(road(book, ["bob"], ["ann"]), ["bob", "ann"])
        book = webs.made(["ann", "bob"], {("ann", "bob"): 2}, {("ann", "bob"): 2})
        self.assertIs(road(book, ["ann"], ["bob"]), None)
        self.assertEqual(road(book, ["bob"], ["ann"]), ["bob", "ann"])

    def test_as_few_houses_as_any(self):
        lines = {("ann", "bob"): 9, ("bob", "cat"): 9, ("cat", "dan"): 9, ("ann", "dan"): 1}
        book = webs.made(["ann", "bob", "cat", "dan"], lines, {})
        for order in [None, ["cat", "bob", "dan", "ann"]]:
            self.assertEqual(road(book, ["ann"], ["dan"], order), ["ann", "dan"])
            self.assertEqual(road(book, ["ann", "bob"], ["cat"], order), ["bob", "cat"])
            self.assertEqual(road(book, ["ann"], ["cat", "bob"], order), ["ann", "bob"])

    def test_a_chain_of_all_houses(self):
        houses = webs.HOUSES
        book = webs.made(houses, {pair: 1 for pair in webs.chain_steps(houses)}, {})
        self.assertEqual(road(book, ["ann"], ["hal"]), houses)
        self.assertIs(road(book, ["hal"], ["ann"]), None)

    def test_a_nearer_goal_goes_ahead_of_the_order(self):
        order = ["gus", "dan", "cat", "bob", "ann", "eve", "fay"]
        self.assertEqual(road(diamond(), ["ann"], ["gus", "eve"], order), ["ann", "cat", "eve"])


class Orders(unittest.TestCase):
    def test_left_out_and_none_stand_for_the_houses_sorted(self):
        for call in [
            lambda: road(diamond(), ["ann"], ["eve", "dan"]), lambda: road(diamond(), ["ann"], ["eve", "dan"], None),
            lambda: road(diamond(), ["ann"], ["eve", "dan"], diamond().houses),
            lambda: road(diamond(), ["ann"], ["eve", "dan"], order=None),
        ]:
            self.assertEqual(call(), ["ann", "bob", "dan"])

    def test_the_last_house_is_chosen_first(self):
        self.assertEqual(
            road(diamond(), ["ann"], ["dan", "eve"], ["bob", "cat", "eve", "dan", "ann", "fay", "gus"]),
            ["ann", "bob", "eve"])
        self.assertEqual(
            road(diamond(), ["ann"], ["dan", "eve"], ["eve", "dan", "cat", "bob", "gus", "ann", "fay"]),
            ["ann", "cat", "eve"])
        self.assertEqual(
            road(diamond(), ["ann"], ["dan", "eve"], ["cat", "dan", "gus", "eve", "bob", "ann", "fay"]),
            ["ann", "cat", "dan"])

    def test_from_the_goal_back_and_not_from_the_start_on(self):
        lines = {
            ("ann", "bob"): 1, ("ann", "cat"): 1, ("bob", "eve"): 1, ("cat", "dan"): 1,
            ("dan", "fay"): 1, ("eve", "fay"): 1,
        }
        book = webs.made(["ann", "bob", "cat", "dan", "eve", "fay"], lines, {})
        self.assertEqual(road(book, ["ann"], ["fay"]), ["ann", "cat", "dan", "fay"])
        self.assertEqual(
            road(book, ["ann"], ["fay"], ["fay", "eve", "dan", "cat", "bob", "ann"]), ["ann", "bob", "eve", "fay"])

    def test_the_start_is_chosen_by_the_order_too(self):
        lines = {("ann", "cat"): 1, ("bob", "cat"): 1}
        book = webs.made(["ann", "bob", "cat"], lines, {})
        for starts in [["ann", "bob"], ["bob", "ann"]]:
            self.assertEqual(road(book, starts, ["cat"]), ["ann", "cat"])
            self.assertEqual(road(book, starts, ["cat"], ["cat", "bob", "ann"]), ["bob", "cat"])

    def test_names_that_are_no_houses_change_nothing(self):
        order = ["zed", "eve", "moe", "dan", "cat", "a", "bob", "gus", "ann", "zzzzzzzz", "fay", "b"]
        self.assertEqual(road(diamond(), ["ann"], ["dan", "eve"], order), ["ann", "cat", "eve"])

    def test_out_of_all_chains_of_small_books(self):
        longer, unlike = 0, 0
        for seed in range(1500):
            chance = random.Random(seed)
            book = webs.some_book(chance, chance.choice([2, 3, 4, 5, 6, 6]), 2)
            mixed = webs.shuffled(chance, book.houses)
            first, second = chance.choice([0, 1, 1, 1, 1, 2]), chance.choice([0, 1, 1, 1, 2])
            starts, goals = mixed[:first], mixed[first:first + second]
            all_told = []
            for order in [None, webs.some_order(chance, book), webs.some_order(chance, book)]:
                wanted = webs.first_road(book, starts, goals, order or book.houses)
                with self.subTest(seed=seed, order=order):
                    self.assertEqual(road(book, starts, goals, order), wanted)
                    self.assertEqual(road(webs.again(book), starts[::-1], goals[::-1], order), wanted)
                all_told.append(wanted)
            longer += all_told[0] is not None and len(all_told[0]) > 2
            unlike += all_told != all_told[:1] * 3
        # Else the books would be too plain to tell anything of longer roads and of orders.
        self.assertGreater(longer, 100)
        self.assertGreater(unlike, 50)


class Reached(unittest.TestCase):
    def test_they_themselves_and_what_a_road_leads_to(self):
        self.assertEqual(reached(diamond(), ["ann"]), ["ann", "bob", "cat", "dan", "eve", "gus"])
        self.assertEqual(reached(diamond(), ["dan"]), ["dan", "gus"])
        self.assertEqual(reached(diamond(), ["fay"]), ["fay"])

    def test_sorted_whatever_is_handed(self):
        self.assertEqual(reached(diamond(), ["gus", "fay", "bob"]), ["bob", "dan", "eve", "fay", "gus"])
        self.assertEqual(reached(diamond(), diamond().houses[::-1]), diamond().houses)

    def test_of_no_houses(self):
        for book in [diamond(), no_houses()]:
            told = reached(book, [])
            self.assertEqual(told, [])
            self.assertIs(type(told), list)

    def test_out_of_all_chains_of_small_books(self):
        for seed in range(60):
            chance = random.Random(seed)
            book = webs.some_book(chance, chance.choice([3, 4, 5]), 2)
            some = webs.shuffled(chance, book.houses)[:chance.randint(0, 2)]
            wanted = [house for house in book.houses
                      if house in some or webs.first_road(book, some, [house], book.houses) is not None]
            self.assertEqual(reached(book, some), wanted)


class RoomsOut(unittest.TestCase):
    def test_the_sum_of_all_rooms_out(self):
        self.assertEqual(rooms_out(diamond(), ["ann"]), 3)
        self.assertEqual(rooms_out(diamond(), ["cat", "bob"]), 18)
        self.assertEqual(rooms_out(diamond(), ["ann", "bob", "cat"]), 18)
        self.assertEqual(rooms_out(diamond(), ["fay", "gus"]), 0)
        self.assertIs(type(rooms_out(diamond(), ["ann"])), int)

    def test_of_none_and_of_all(self):
        self.assertEqual(rooms_out(diamond(), []), 0)
        self.assertEqual(rooms_out(diamond(), diamond().houses), 0)
        self.assertEqual(rooms_out(no_houses(), []), 0)

    def test_what_is_owed_counts(self):
        book = webs.made(["ann", "bob"], {("ann", "bob"): 9}, {("ann", "bob"): 4})
        self.assertEqual((rooms_out(book, ["ann"]), rooms_out(book, ["bob"])), (5, 4))

    def test_all_sets_of_small_books(self):
        for seed in range(20):
            book = webs.some_book(random.Random(seed), 5, [4, webs.GREAT][seed % 2])
            for some in webs.sets_of(book.houses):
                self.assertEqual(rooms_out(book, some), webs.way_out(book, some))
                self.assertEqual(rooms_out(book, some[::-1]), webs.way_out(book, some))

    def test_great_numbers(self):
        pairs = [(one, other) for one in webs.HOUSES for other in webs.HOUSES if one != other]
        book = webs.made(webs.HOUSES, {pair: webs.GREAT for pair in pairs}, {})
        self.assertEqual(rooms_out(book, ["ann", "bob", "cat", "dan"]), 16 * webs.GREAT)


class NothingChanges(unittest.TestCase):
    def test_what_is_handed_in_stays_and_what_is_told_is_the_askers(self):
        book, starts, goals = diamond(), ["cat", "ann"], ["eve", "dan"]
        order = ["gus", "zed", "eve", "dan", "cat", "bob", "ann", "fay"]
        told = [road(book, starts, goals, order), reached(book, starts)]
        rooms_out(book, starts)
        second = [road(book, starts, goals, order), reached(book, starts)]
        self.assertEqual((starts, goals), (["cat", "ann"], ["eve", "dan"]))
        self.assertEqual(order, ["gus", "zed", "eve", "dan", "cat", "bob", "ann", "fay"])
        webs.check_same(self, book, diamond())
        for each in told:
            each.clear()
        self.assertEqual(second, [["cat", "eve"], ["ann", "bob", "cat", "dan", "eve", "gus"]])
        starts.clear()
        order.clear()
        self.assertEqual(second, [["cat", "eve"], ["ann", "bob", "cat", "dan", "eve", "gus"]])
        webs.check_same(self, book, diamond())

    def test_reached_tells_no_list_of_the_book_and_none_that_was_handed(self):
        book, some = diamond(), diamond().houses
        told = reached(book, some)
        told.clear()
        self.assertEqual((book.houses, some), (diamond().houses, diamond().houses))
        before = things.values(book)
        self.assertEqual(before, things.values(diamond()))


if __name__ == "__main__":
    unittest.main()
