"""Promises 18 and 19, and 2, 3, 5 and 6 over them: the highest, the lowest, and lines set anew."""

import copy
import itertools
import random
import unittest

import things
import webs
from trustways.books import joined, lined, no_houses
from trustways.chains import all_turned
from trustways.errors import NoAmount, NoHouse, TooLow
from trustways.kin import are_kin
from trustways.spreads import highest, lined_anew, lowest

GREAT = webs.GREAT


def sample():
    """Ann owes bob 4, of which 1 can go round by cat, and 2 by cat and dan; eve has no lines."""
    lines = {
        ("ann", "bob"): 6, ("ann", "cat"): 3, ("cat", "bob"): 1, ("cat", "dan"): 2, ("dan", "bob"): 5,
    }
    return webs.made(["ann", "bob", "cat", "dan", "eve"], lines, {("ann", "bob"): 4})


def fullest():
    return webs.made(webs.HOUSES, {pair: GREAT for pair in itertools.permutations(webs.HOUSES, 2)}, {})


def bound_by(book, one, other, some):
    """What the houses, other among them and one not, let one owe other at most."""
    standing = sum(webs.standing_of(book, house) for house in some)
    return webs.lines_from(book, some) - book.lines.get((other, one), 0) - standing


def greatest(book, one, other):
    """The greatest that one can owe other, reckoned from the line and all sets of houses."""
    rest = [house for house in book.houses if house not in (one, other)]
    bounds = [bound_by(book, one, other, [other] + some) for some in webs.sets_of(rest)]
    return min(bounds + [book.lines.get((one, other), 0)])


def pairs_of(book):
    return list(itertools.permutations(book.houses, 2))


def no_houses_of_sample():
    return things.names() + things.no_names()


class Checks(unittest.TestCase):
    def check_told(self, book, one, other, told):
        """The kinds of what is told, and that the turns lead where it says; told are the number and the bar."""
        self.assertIs(type(told), tuple)
        number, turns, bar = told
        self.assertIs(type(number), int)
        behind = webs.check_turns(self, book, turns)
        self.assertIs(are_kin(book, behind), True)
        self.assertEqual(webs.debt(behind, one, other), number)
        if bar is not None:
            webs.check_set(self, book, bar)
        return number, bar

    def check_highest(self, book, one, other):
        before = things.values(book)
        number, bar = self.check_told(book, one, other, highest(book, one, other))
        self.assertEqual(things.values(book), before)
        self.assertEqual(bar is None, number == book.lines.get((one, other), 0))
        if bar is not None:
            self.assertIn(other, bar)
            self.assertNotIn(one, bar)
            self.assertEqual(bound_by(book, one, other, bar), number)
        return number, bar

    def check_lowest(self, book, one, other):
        before = things.values(book)
        number, bar = self.check_told(book, one, other, lowest(book, one, other))
        self.assertEqual(things.values(book), before)
        self.assertEqual(bar is None, number == 0 - book.lines.get((other, one), 0))
        if bar is not None:
            self.assertIn(one, bar)
            self.assertNotIn(other, bar)
            self.assertEqual(bound_by(book, other, one, bar), 0 - number)
        return number, bar


class Highest(Checks):
    def test_the_line(self):
        book = webs.made(["ann", "bob", "cat"], {
            ("ann", "bob"): 5, ("bob", "cat"): 9, ("cat", "ann"): 5,
        }, {("ann", "bob"): 2, ("cat", "ann"): 2})
        self.assertEqual(self.check_highest(book, "ann", "bob"), (5, None))
        self.assertEqual(highest(book, "ann", "bob")[1], [(["bob", "cat", "ann"], 3)])

    def test_a_set_of_houses_that_bars_it(self):
        self.assertEqual(self.check_highest(sample(), "ann", "bob")[0], 4)
        self.assertEqual(highest(sample(), "ann", "bob")[1], [])
        self.assertEqual(self.check_highest(sample(), "ann", "cat"), (3, None))
        self.assertEqual(self.check_highest(sample(), "cat", "dan"), (2, None))
        self.assertEqual(self.check_highest(sample(), "dan", "bob")[0], 2)

    def test_the_line_is_reached_already(self):
        book = webs.made(["ann", "bob", "cat"], {("ann", "bob"): 3}, {("ann", "bob"): 3})
        self.assertEqual(highest(book, "ann", "bob"), (3, [], None))

    def test_the_line_is_told_where_a_set_of_houses_comes_to_the_same(self):
        book = webs.made(["ann", "bob", "cat"], {("ann", "bob"): 3, ("bob", "cat"): 3, ("cat", "ann"): 3}, {})
        self.assertEqual(self.check_highest(book, "ann", "bob"), (3, None))

    def test_no_line_and_nothing_owed(self):
        for one, other in [("ann", "eve"), ("eve", "ann"), ("cat", "ann")]:
            self.assertEqual(self.check_highest(sample(), one, other), (0, None))

    def test_below_0_where_other_owes_one(self):
        book = webs.made(["ann", "bob", "cat"], {("ann", "bob"): 6, ("bob", "ann"): 2}, {("ann", "bob"): 4})
        self.assertEqual(self.check_highest(book, "bob", "ann")[0], -4)
        self.assertEqual(self.check_highest(book, "ann", "bob")[0], 4)

    def test_two_houses_have_no_ring(self):
        book = webs.made(["ann", "bob"], {("ann", "bob"): 6, ("bob", "ann"): 5}, {("ann", "bob"): 4})
        self.assertEqual(highest(book, "ann", "bob"), (4, [], ["bob"]))
        self.assertEqual(highest(book, "bob", "ann"), (-4, [], ["ann"]))


class Lowest(Checks):
    def test_0_less_the_line_back(self):
        book = webs.made(["ann", "bob", "cat"], {
            ("ann", "bob"): 5, ("bob", "ann"): 1, ("ann", "cat"): 9, ("cat", "bob"): 5,
        }, {("ann", "bob"): 2})
        self.assertEqual(self.check_lowest(book, "ann", "bob"), (-1, None))
        self.assertEqual(lowest(book, "ann", "bob")[1], [(["ann", "cat", "bob"], 3)])

    def test_a_set_of_houses_that_bars_it(self):
        self.assertEqual(self.check_lowest(sample(), "ann", "bob")[0], 1)
        self.assertEqual(self.check_lowest(lined(sample(), "dan", "bob", 1), "ann", "bob")[0], 2)
        self.assertEqual(self.check_lowest(lined(sample(), "ann", "cat", 2), "ann", "bob")[0], 2)

    def test_0_is_the_line_back_that_is_none(self):
        book = lined(sample(), "cat", "bob", 2)
        self.assertEqual(self.check_lowest(book, "ann", "bob")[0], 1)
        book = lined(book, "ann", "cat", 4)
        self.assertEqual(self.check_lowest(book, "ann", "bob"), (0, None))

    def test_nothing_owed_and_no_lines(self):
        for one, other in [("ann", "eve"), ("eve", "bob"), ("ann", "cat")]:
            self.assertEqual(self.check_lowest(sample(), one, other), (0, None))
        self.assertEqual(self.check_lowest(sample(), "cat", "ann"), (-3, None))

    def test_it_is_the_highest_the_other_way_round(self):
        for seed in range(20):
            book = webs.some_book(random.Random(seed), 5, 5)
            for one, other in pairs_of(book):
                self.assertEqual(self.check_lowest(book, one, other)[0], 0 - highest(book, other, one)[0])


class AllPairs(Checks):
    def test_no_kin_book_goes_beyond(self):
        barred = turning = 0
        for chance, book in webs.countable_books(200):
            kin = webs.debts_in_kin_books(book)
            for one, other in itertools.combinations(book.houses, 2):
                numbers = [owed[(one, other)] for owed in kin]
                high, bar = self.check_highest(book, one, other)
                low = self.check_lowest(book, one, other)[0]
                self.assertEqual((high, low), (max(numbers), min(numbers)))
                self.assertEqual(self.check_highest(book, other, one)[0], 0 - low)
                self.assertEqual(self.check_lowest(book, other, one)[0], 0 - high)
                barred += bar is not None
                turning += high > webs.debt(book, one, other)
        # Else the books would be too plain to tell anything of bars and turns.
        self.assertGreater(min(barred, turning), 50)

    def test_against_the_line_and_all_sets(self):
        for seed in range(40):
            chance = random.Random(seed)
            book = webs.some_book(chance, chance.choice([3, 5, 6]), chance.choice([2, 9, GREAT]))
            for one, other in pairs_of(book):
                self.assertEqual(self.check_highest(book, one, other)[0], greatest(book, one, other))
                self.assertEqual(self.check_lowest(book, one, other)[0], 0 - greatest(book, other, one))

    def test_books_of_eight_houses(self):
        for seed in range(6):
            chance = random.Random(seed)
            book = webs.some_book(chance, 8, chance.choice([4, GREAT]))
            for one, other in [chance.sample(book.houses, 2) for turn in range(6)]:
                self.assertEqual(self.check_highest(book, one, other)[0], greatest(book, one, other))
                self.assertEqual(self.check_lowest(book, one, other)[0], 0 - greatest(book, other, one))

    def test_great_numbers(self):
        self.assertEqual(self.check_highest(fullest(), "ann", "hal"), (GREAT, None))
        self.assertEqual(self.check_lowest(fullest(), "ann", "hal"), (0 - GREAT, None))
        turned_up = all_turned(fullest(), highest(fullest(), "ann", "hal")[1])
        self.assertEqual(self.check_lowest(turned_up, "ann", "hal"), (0 - GREAT, None))

    def test_kin_books_have_the_same(self):
        for seed in range(30):
            chance = random.Random(seed)
            book = webs.some_book(chance, 5, 4)
            other = webs.rolled(chance, book, 12)
            for one, two in pairs_of(book):
                self.assertEqual(highest(book, one, two)[0], highest(other, one, two)[0])
                self.assertEqual(lowest(book, one, two)[0], lowest(other, one, two)[0])


class LinedAnew(Checks):
    def check(self, book, one, other, line):
        before = things.values(book)
        told = lined_anew(book, one, other, line)
        self.assertEqual(things.values(book), before)
        self.assertIs(type(told), tuple)
        behind, turns = told
        wanted = webs.check_turns(self, book, turns)
        self.assertLessEqual(webs.debt(wanted, one, other), line)
        if webs.debt(book, one, other) <= line:
            self.assertEqual(turns, [])
        webs.check_book(self, behind)
        webs.check_same(self, behind, lined(wanted, one, other, line))
        self.assertEqual(webs.standings_of(behind), webs.standings_of(book))
        return behind, turns

    def test_no_less_than_what_is_owed(self):
        for line in [4, 5, 6, 7, GREAT]:
            behind, turns = self.check(sample(), "ann", "bob", line)
            self.assertEqual(turns, [])
            webs.check_same(self, behind, lined(sample(), "ann", "bob", line))

    def test_below_what_is_owed_down_to_the_lowest(self):
        for line in [3, 2, 1]:
            behind, turns = self.check(sample(), "ann", "bob", line)
            self.assertNotEqual(turns, [])
            self.assertEqual(behind.lines[("ann", "bob")], line)

    def test_one_below_the_lowest(self):
        self.assertEqual(lowest(sample(), "ann", "bob")[0], 1)
        self.assertIs(things.refusal(lined_anew, sample(), "ann", "bob", 0), TooLow)

    def test_to_0(self):
        book = lined(lined(sample(), "cat", "bob", 2), "ann", "cat", 4)
        behind, turns = self.check(book, "ann", "bob", 0)
        self.assertNotIn(("ann", "bob"), behind.lines)
        self.assertEqual(behind.houses, sample().houses)
        for one, other in [("bob", "ann"), ("ann", "eve"), ("cat", "dan"), ("eve", "ann")]:
            self.assertEqual(self.check(sample(), one, other, 0)[1], [])

    def test_where_other_owes_one(self):
        for line in [0, 1, 9, GREAT]:
            behind, turns = self.check(sample(), "bob", "ann", line)
            self.assertEqual(turns, [])
            self.assertEqual(behind.owed, {("ann", "bob"): 4})

    def test_all_pairs_and_lines_of_small_books(self):
        done = refused = 0
        for chance, book in webs.countable_books(80):
            kin = webs.debts_in_kin_books(book)
            for one, other in pairs_of(book):
                least = min(owed.get((one, other), 0) - owed.get((other, one), 0) for owed in kin)
                for line in range(5):
                    if line < least:
                        self.assertIs(things.refusal(lined_anew, book, one, other, line), TooLow)
                        refused += 1
                    else:
                        done += self.check(book, one, other, line)[1] != []
        # Else the books would be too plain to tell anything of turns and refusals.
        self.assertGreater(min(done, refused), 30)

    def test_great_numbers(self):
        lines = {("ann", "bob"): GREAT, ("ann", "cat"): GREAT, ("cat", "bob"): GREAT - 1}
        book = webs.made(["ann", "bob", "cat"], lines, {("ann", "bob"): GREAT})
        for line in [GREAT, GREAT - 1, 2, 1]:
            self.check(book, "ann", "bob", line)
        self.assertIs(things.refusal(lined_anew, book, "ann", "bob", 0), TooLow)
        for line in [10 ** 59, 10 ** 60 - 1]:
            self.assertIs(things.refusal(lined_anew, book, "ann", "bob", line), NoAmount)

    def test_chance_lines_of_great_books(self):
        for seed in range(10):
            chance = random.Random(seed)
            book = webs.some_book(chance, chance.choice([5, 8]), GREAT)
            for one, other in [chance.sample(book.houses, 2) for turn in range(6)]:
                least = 0 - greatest(book, other, one)
                for line in [max(0, least), max(0, least) + 1, chance.randint(max(0, least), GREAT)]:
                    self.check(book, one, other, line)
                if least > 0:
                    self.assertIs(things.refusal(lined_anew, book, one, other, least - 1), TooLow)

    def test_kin_books_are_refused_alike_and_stay_kin(self):
        for seed in range(40):
            chance = random.Random(seed)
            book = webs.some_book(chance, 4, 3)
            other = webs.rolled(chance, book, 9)
            for one, two in pairs_of(book):
                for line in range(4):
                    wanted = things.refusal(lined_anew, book, one, two, line)
                    self.assertIs(things.refusal(lined_anew, other, one, two, line), wanted)
                    if wanted is None:
                        first, second = lined_anew(book, one, two, line)[0], lined_anew(other, one, two, line)[0]
                        self.assertIs(are_kin(first, second), True)


class Refusals(unittest.TestCase):
    def refused(self, wanted, call, *args):
        book = sample()
        self.assertIs(things.refusal(call, book, *args), wanted)
        webs.check_same(self, book, sample())

    def test_what_are_no_two_houses(self):
        for place, thing in enumerate(no_houses_of_sample()):
            for one, other in [(thing, "bob"), ("ann", thing), (thing, thing)]:
                with self.subTest(place=place):
                    self.refused(NoHouse, highest, one, other)
                    self.refused(NoHouse, lowest, one, other)
                    for line in [4, 0, -1, None, True, things.Failing()]:
                        self.refused(NoHouse, lined_anew, one, other, line)

    def test_the_same_house_twice(self):
        for house in sample().houses:
            self.refused(NoHouse, highest, house, house)
            self.refused(NoHouse, lowest, house, house)
            for line in [4, 0, -1, None, 10 ** 59]:
                self.refused(NoHouse, lined_anew, house, house, line)

    def test_books_of_fewer_houses_than_two(self):
        for book in [no_houses(), joined(no_houses(), "ann")]:
            for one, other in [("ann", "bob"), ("bob", "ann"), ("ann", "ann")]:
                self.assertIs(things.refusal(highest, book, one, other), NoHouse)
                self.assertIs(things.refusal(lowest, book, one, other), NoHouse)
                self.assertIs(things.refusal(lined_anew, book, one, other, 1), NoHouse)
                self.assertIs(things.refusal(lined_anew, book, one, other, None), NoHouse)

    def test_what_is_no_line_comes_ahead_of_too_low(self):
        for place, thing in enumerate(things.no_lines()):
            with self.subTest(place=place):
                self.refused(NoAmount, lined_anew, "ann", "bob", thing)
                self.refused(NoAmount, lined_anew, "bob", "ann", thing)
                self.refused(NoAmount, lined_anew, "ann", "eve", thing)


class TheSameEachTime(Checks):
    def test_for_equal_books(self):
        for seed in range(30):
            chance = random.Random(seed)
            book = webs.some_book(chance, chance.randint(3, 6), 4)
            for one, other in pairs_of(book):
                self.assertEqual(highest(book, one, other), highest(webs.again(book), one, other))
                self.assertEqual(lowest(book, one, other), lowest(webs.again(book), one, other))
                line = max(0, lowest(book, one, other)[0])
                first, second = lined_anew(book, one, other, line), lined_anew(webs.again(book), one, other, line)
                self.assertEqual(first[1], second[1])
                webs.check_same(self, first[0], second[0])


class TheAskersOwn(Checks):
    def test_turns_and_bars(self):
        for call, one, other in [(lowest, "ann", "bob"), (highest, "dan", "bob")]:
            book = sample()
            first, second = call(book, one, other), call(book, one, other)
            before = copy.deepcopy(second)
            webs.check_own(self, [second[1], second[2]] + [ring for ring, amount in second[1]])
            first[1][0][0].clear()
            first[1].clear()
            first[2].clear()
            self.assertEqual(second, before)
            webs.check_same(self, book, sample())

    def test_lines_set_anew(self):
        for line in [1, 4, 9]:
            book = sample()
            first, second = lined_anew(book, "ann", "bob", line), lined_anew(book, "ann", "bob", line)
            before = (things.values(second[0]), copy.deepcopy(second[1]))
            webs.check_own(self, [second[1]] + [ring for ring, amount in second[1]])
            for ring, amount in first[1]:
                ring.clear()
            first[1].append(1)
            self.assertEqual(things.values(first[0]), before[0])
            first[0].houses.clear()
            first[0].lines.clear()
            first[0].owed.clear()
            self.assertEqual((things.values(second[0]), second[1]), before)
            webs.check_same(self, book, sample())


if __name__ == "__main__":
    unittest.main()
