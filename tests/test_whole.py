"""Promises 1 and 3, whole: what is promised of every book that the deeds can make."""

import itertools
import random
import unittest

import rows
import things
import webs
from trustways.books import joined, no_houses, standings
from trustways.chains import all_sent, all_turned
from trustways.deeds import Turn
from trustways.desk import Desk
from trustways.errors import TooLow, TooMany
from trustways.histories import run
from trustways.kin import are_kin, turns_to
from trustways.leaving import freed, gone
from trustways.payments import most, paid
from trustways.roads import rooms_out
from trustways.spreads import highest, lined_anew, lowest
from trustways.tally import all_standings
from trustways.texts import come_up, read, written
from trustways.wishes import lines_out, met


def desk_book(chance, count):
    """The book of a desk that was told so many chance rows."""
    desk = Desk()
    for turn in range(count):
        things.refusal(desk.say, rows.chance_row(chance, desk.book))
    return desk.book


def small_books(count):
    """Books that deeds made, each with few enough others of the same lines that all of these can be walked."""
    for seed in range(count):
        chance = random.Random(seed)
        book = desk_book(chance, chance.choice([12, 16, 20, 25]))
        if webs.count_of_books(book) <= 3000:
            yield chance, book


def all_standings_there_are(book):
    return [webs.standings_by(book.houses, owed) for owed in webs.debts_in_all_books(book)]


def kin_numbers(book, one, other):
    """What one owes other in each kin book."""
    pairs = debts_both_ways(webs.debts_in_kin_books(book))
    return [owed[(one, other)] for owed in pairs]


def debts_both_ways(books):
    return [{**owed, **{(other, one): 0 - number for (one, other), number in owed.items()}} for owed in books]


class EveryBook(unittest.TestCase):
    def test_the_greatest_amount_with_chains_that_carry_it_and_a_set_that_bars_more(self):
        for seed in range(25):
            book = desk_book(random.Random(seed), 40)
            for payer, taker in itertools.permutations(book.houses, 2):
                amount, ways, bar = most(book, payer, taker)
                self.assertEqual(amount, webs.least_way_out(book, payer, taker))
                self.assertEqual((amount, payer in bar, taker in bar), (rooms_out(book, bar), True, False))
                behind = all_sent(book, ways)
                self.assertEqual(webs.standing_of(behind, payer), webs.standing_of(book, payer) + amount)
                self.assertEqual(webs.standing_of(behind, taker), webs.standing_of(book, taker) - amount)
                self.assertIsNotNone(things.refusal(paid, book, payer, taker, amount + 1))
                if amount > 0:
                    webs.check_book(self, paid(book, payer, taker, amount)[0])

    def test_kin_books_lead_to_one_another(self):
        for seed in range(40):
            chance = random.Random(seed)
            book = desk_book(chance, 40)
            other = webs.rolled(chance, book, 9)
            self.assertEqual(all_turned(book, turns_to(book, other)).owed, other.owed)
            self.assertEqual(all_turned(other, turns_to(other, book)).owed, book.owed)

    def test_whatever_is_done_to_both_is_done_or_refused_alike(self):
        for seed in range(60):
            chance = random.Random(seed)
            first = desk_book(chance, 30)
            second = webs.rolled(chance, first, 9)
            for turn in range(20):
                deed = read(rows.chance_row(chance, first))
                if isinstance(deed, Turn):
                    first, second = webs.rolled(chance, first, 1), webs.rolled(chance, second, 2)
                    continue
                wanted = things.refusal(run, first, [deed])
                self.assertIs(things.refusal(run, second, [deed], webs.shuffled(chance, webs.HOUSES)), wanted)
                if wanted is None:
                    told = run(first, [deed], webs.shuffled(chance, webs.HOUSES))
                    other = run(second, [deed], webs.shuffled(chance, webs.HOUSES))
                    self.assertEqual(told[1], other[1])
                    first, second = told[0], other[0]
                self.assertIs(are_kin(first, second), True)

    def test_wishes_are_met_or_barred(self):
        counts = {True: 0, False: 0}
        for chance, book in small_books(60):
            able = all_standings_there_are(book)
            for turn in range(10):
                wish = dict(chance.choice(able))
                up, down = chance.choices(book.houses, k=2)
                wish[up] += 1
                wish[down] -= 1
                found, bar = met(book, wish)
                counts[found is not None] += 1
                self.assertIs(found is not None, wish in able)
                if found is not None:
                    webs.check_book(self, found)
                    self.assertEqual((found.lines, standings(found)), (book.lines, wish))
                else:
                    self.assertGreater(sum(wish[house] for house in bar), lines_out(book, bar))
        # Else the wishes would be too plain to tell anything of one of the two.
        self.assertGreater(min(counts.values()), 50)

    def test_the_greatest_and_the_least_that_one_can_owe_another(self):
        for chance, book in small_books(40):
            for one, other in itertools.permutations(book.houses, 2):
                numbers = kin_numbers(book, one, other)
                for (number, turns, bar), wanted in [
                    (highest(book, one, other), max(numbers)), (lowest(book, one, other), min(numbers)),
                ]:
                    self.assertEqual(number, wanted)
                    self.assertEqual(webs.debt(all_turned(book, turns), one, other), wanted)

    def test_a_line_is_lowered_just_as_far_as_that_lets_it(self):
        for chance, book in small_books(40):
            for one, other in itertools.permutations(book.houses, 2):
                least = max(0, min(kin_numbers(book, one, other)))
                behind = lined_anew(book, one, other, least)[0]
                webs.check_book(self, behind)
                self.assertEqual(webs.standings_of(behind), webs.standings_of(book))
                if least > 0:
                    self.assertIs(things.refusal(lined_anew, book, one, other, least - 1), TooLow)

    def test_a_house_leaves_just_where_the_others_can_stand_so_without_it(self):
        counts = {True: 0, False: 0}
        for chance, book in small_books(200):
            for house in [house for house in book.houses if webs.standing_of(book, house) == 0]:
                able = any(all(number == 0 for pair, number in owed.items() if house in pair)
                           for owed in webs.debts_in_kin_books(book))
                counts[able] += 1
                self.assertIs(freed(book, house)[0] is not None, able)
                self.assertIs(things.refusal(gone, book, house), None if able else TooLow)
                if able:
                    behind = gone(book, house)[0]
                    webs.check_book(self, behind)
                    self.assertEqual({**webs.standings_of(behind), house: 0}, webs.standings_of(book))
        self.assertGreater(min(counts.values()), 5)

    def test_the_standings_that_a_web_of_lines_can_come_to(self):
        counts = {True: 0, False: 0}
        for chance, book in small_books(60):
            able = sorted({tuple(wish.values()) for wish in all_standings_there_are(book)})
            counts[len(able) <= 300] += 1
            if len(able) > 300:
                self.assertIs(things.refusal(all_standings, book), TooMany)
            else:
                self.assertEqual(all_standings(book), [dict(zip(book.houses, row)) for row in able])
                self.assertIn(standings(book), all_standings(book))
        self.assertGreater(counts[True], 20)

    def test_written_books_come_up_again(self):
        for seed in range(40):
            book = desk_book(random.Random(seed), 50)
            webs.check_book(self, book)
            webs.check_same(self, come_up(written(book)), book)


class BeginningsAndEnds(unittest.TestCase):
    def test_all_houses_may_leave_again(self):
        for seed in range(20):
            chance = random.Random(seed)
            book = desk_book(chance, 40)
            # All debts are given back: standings of 0 can be had in every web of lines.
            book = met(book, {house: 0 for house in book.houses})[0]
            for house in webs.shuffled(chance, book.houses):
                book = gone(book, house)[0]
            webs.check_same(self, book, no_houses())

    def test_a_lone_house(self):
        book = joined(no_houses(), "ann")
        self.assertEqual((standings(book), all_standings(book)), ({"ann": 0}, [{"ann": 0}]))
        self.assertEqual(things.values(gone(book, "ann")[0]), ([], {}, {}))


if __name__ == "__main__":
    unittest.main()
