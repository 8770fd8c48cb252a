"""Promises 22 and 23, and 2, 3, 5 and 6 over them: histories, their answers, and kin books behind them."""

import itertools
import random
import unittest

import things
import webs
from trustways.books import joined, no_houses, standings
from trustways.deeds import Deed, Join, Leave, Pay, Trust, Turn
from trustways.errors import NoAmount, NoChain, NoHouse, NoRoom, StillOwes, TooLow, TooMuch, Twice
from trustways.histories import run
from trustways.kin import are_kin

GREAT = webs.GREAT
AS_FALSE = [TooMuch, TooLow, StillOwes, NoRoom]
ORDER = ["zed", "eve", "dan", "cat", "bob", "ann", "moe"]


def sample():
    """Ann owes dan 2 through bob, and could owe them through cat; eve owes cat 1 and has nothing else."""
    lines = {
        ("ann", "bob"): 3, ("bob", "dan"): 3, ("ann", "cat"): 3, ("cat", "dan"): 3, ("dan", "ann"): 1,
        ("eve", "cat"): 1,
    }
    owed = {("ann", "bob"): 2, ("bob", "dan"): 2, ("eve", "cat"): 1}
    return webs.made(["ann", "bob", "cat", "dan", "eve"], lines, owed)


def refused_as_false():
    """Deeds that the sample refuses, for each of the refusals that are answered with False."""
    return [
        (Pay("ann", "dan", 5), TooMuch), (Pay("eve", "ann", 1), TooMuch), (Pay("bob", "cat", 10 ** 60 - 1), TooMuch),
        (Trust("eve", "cat", 0), TooLow), (Leave("ann"), StillOwes), (Leave("cat"), StillOwes),
        (Turn(["ann", "bob", "dan"], 2), NoRoom), (Turn(["cat", "bob", "ann"], 1), NoRoom),
    ]


def refused_by_the_history():
    """Deeds that the sample refuses, for each of the other refusals, with things of many kinds."""
    return [
        (Join("ann"), Twice), (Join("Fay"), NoHouse), (Join(""), NoHouse), (Join(None), NoHouse), (Join(5), NoHouse),
        (Trust("ann", "yan", 1), NoHouse), (Trust("ann", "ann", 1), NoHouse), (Trust(None, "ann", 1), NoHouse),
        (Trust("ann", "bob", 10 ** 59), NoAmount), (Trust("ann", "bob", -1), NoAmount),
        (Trust("ann", "bob", True), NoAmount), (Pay("yan", "ann", 1), NoHouse), (Pay("dan", "dan", 1), NoHouse),
        (Pay("ann", ("dan",), 1), NoHouse), (Pay("ann", "dan", 0), NoAmount), (Pay("ann", "dan", 10 ** 60), NoAmount),
        (Pay("ann", "dan", "1"), NoAmount), (Pay("ann", "dan", False), NoAmount), (Turn(["ann", "bob"], 1), NoChain),
        (Turn(["ann", "bob", "yan"], 1), NoChain), (Turn(["ann", "bob", "ann"], 1), NoChain), (Turn(None, 1), NoChain),
        (Turn(("ann", "bob", "dan"), 1), NoChain), (Turn(["ann", "bob", "dan"], 0), NoAmount),
        (Turn(["ann", "bob", "dan"], None), NoAmount), (Leave("yan"), NoHouse), (Leave([]), NoHouse),
    ]


def chance_name(chance, book):
    """A house of the book, at times a stranger."""
    return chance.choice(book.houses * 4 + ["zed", "moe"])


def chance_deed(chance, book):
    """A deed that is done, refused as False, or the refusal of a history."""
    one, other = chance_name(chance, book), chance_name(chance, book)
    number = chance.choice([0, 1, 1, 2, 2, 3, 6])
    ring = webs.shuffled(chance, book.houses)[:chance.randint(3, 5)]
    return chance.choice([
        Deed(), Join(chance.choice(["zed", "moe", one])), Trust(one, other, number), Trust(one, other, number),
        Pay(one, other, number), Pay(one, other, number), Turn(ring, max(1, number)), Leave(one),
    ])


def one_by_one(book, deeds, order):
    """The book and the answers of the deeds, each done by itself; or the refusal that is the history's."""
    answers = []
    for deed in deeds:
        found = things.refusal(deed.acted, book, order)
        if found is not None and found not in AS_FALSE:
            return found
        answers.append(found is None)
        if found is None:
            book = deed.acted(book, order)
    return (things.values(book), answers)


def history_without_refusal(chance, book, count):
    """Deeds, each of which is done or refused as False, as the book behind the ones ahead of it lets it."""
    deeds = []
    while len(deeds) < count:
        deed = chance_deed(chance, book)
        if isinstance(deed, Turn) or things.refusal(run, book, [deed]) is not None:
            continue
        book = run(book, [deed])[0]
        deeds.append(deed)
    return deeds


def with_turns(chance, book, deeds, order):
    """The deeds with Turn deeds put in anywhere, done and refused ones, and which places the others have."""
    mixed, places = [], []
    for deed in deeds + [None]:
        for turn in range(chance.choice([0, 0, 1, 2])):
            ring = webs.walk(chance, book, 3)
            free = webs.ring_room(book, ring) if ring is not None else 0
            if ring is not None:
                mixed.append(Turn(ring, chance.choice([max(1, free), 1, free + 1])))
                book = run(book, [mixed[-1]], order)[0]
        if deed is not None:
            places.append(len(mixed))
            mixed.append(deed)
            book = run(book, [deed], order)[0]
    return mixed, places


class Checks(unittest.TestCase):
    def check_run(self, book, deeds, order=None):
        """That a book and answers are told, and nothing changed; they are told on."""
        before = (things.values(book), list(deeds), [deed.row() for deed in deeds], list(order or []))
        told = run(book, deeds, order)
        after = (things.values(book), list(deeds), [deed.row() for deed in deeds], list(order or []))
        self.assertEqual(after, before)
        self.assertIs(type(told), tuple)
        behind, answers = told
        webs.check_book(self, behind)
        self.assertIs(type(answers), list)
        self.assertEqual(len(answers), len(deeds))
        self.assertTrue(all(answer is True or answer is False for answer in answers))
        return told


class Run(Checks):
    def test_without_deeds(self):
        for book in [sample(), no_houses(), joined(no_houses(), "ann")]:
            for order in [None, ORDER]:
                behind, answers = self.check_run(book, [], order)
                webs.check_same(self, behind, book)
                self.assertEqual(answers, [])

    def test_plain_deeds(self):
        for book in [sample(), no_houses(), joined(no_houses(), "ann")]:
            for order in [None, ORDER]:
                behind, answers = self.check_run(book, [Deed(), Deed()], order)
                webs.check_same(self, behind, book)
                self.assertEqual(answers, [True, True])

    def test_a_history_from_the_book_without_houses(self):
        deeds = [
            Join("bob"), Join("ann"), Trust("ann", "bob", 5), Pay("ann", "bob", 6), Pay("ann", "bob", 3), Deed(),
            Trust("ann", "bob", 2), Join("cat"), Leave("cat"), Leave("ann"), Pay("bob", "ann", 3), Leave("ann"),
        ]
        behind, answers = self.check_run(no_houses(), deeds)
        self.assertEqual(things.values(behind), (["bob"], {}, {}))
        self.assertEqual(answers, [True, True, True, False, True, True, False, True, True, False, True, True])

    def test_each_refusal_that_is_answered_with_false_changes_nothing(self):
        for deed, wanted in refused_as_false():
            for order in [None, ORDER]:
                with self.subTest(row=deed.row(), order=order):
                    self.assertIs(things.refusal(deed.acted, sample(), order), wanted)
                    behind, answers = self.check_run(sample(), [deed], order)
                    webs.check_same(self, behind, sample())
                    self.assertEqual(answers, [False])

    def test_a_house_that_no_turns_free(self):
        book = webs.made(["ann", "bob", "cat"], {("ann", "bob"): 3, ("bob", "cat"): 3}, {})
        behind, answers = self.check_run(book, [Pay("ann", "cat", 2), Leave("bob"), Join("dan")], None)
        self.assertEqual(answers, [True, False, True])
        self.assertEqual((behind.houses, behind.lines), (["ann", "bob", "cat", "dan"], book.lines))
        self.assertEqual(behind.owed, {("ann", "bob"): 2, ("bob", "cat"): 2})

    def test_the_deeds_behind_a_refused_one_are_done(self):
        for deed, wanted in refused_as_false():
            for order in [None, ORDER]:
                behind, answers = self.check_run(sample(), [deed, Join("zed"), deed, Pay("ann", "dan", 1), deed], order)
                self.assertEqual(answers[:4], [False, True, False, True])
                webs.check_same(self, behind, Pay("ann", "dan", 1).acted(Join("zed").acted(sample()), order))

    def test_turns_are_answered_too(self):
        deeds = [Turn(["ann", "cat", "dan", "bob"], 2), Turn(["ann", "cat", "dan", "bob"], 2), Trust("ann", "bob", 0)]
        behind, answers = self.check_run(sample(), deeds)
        self.assertEqual(answers, [True, False, True])
        self.assertEqual(behind.owed, {("ann", "cat"): 2, ("cat", "dan"): 2, ("eve", "cat"): 1})

    def test_all_are_done_by_the_one_order(self):
        by_bob = {("ann", "bob"): 3, ("bob", "dan"): 3, ("eve", "cat"): 1}
        by_cat = {("ann", "bob"): 2, ("bob", "dan"): 2, ("ann", "cat"): 1, ("cat", "dan"): 1, ("eve", "cat"): 1}
        deeds = [Join("zed"), Pay("ann", "dan", 1)]
        for wanted, order in [(by_bob, None), (by_bob, sample().houses + ["zed"]), (by_cat, ORDER)]:
            self.assertEqual(self.check_run(sample(), deeds, order)[0].owed, wanted)
        self.assertEqual(run(sample(), deeds)[0].owed, by_bob)
        self.assertEqual(run(sample(), deeds, order=ORDER)[0].owed, by_cat)

    def test_a_house_that_joins_is_taken_by_the_order(self):
        deeds = [
            Join("zed"), Trust("ann", "zed", 4), Trust("zed", "dan", 4), Trust("eve", "ann", 1), Pay("ann", "dan", 1),
        ]
        for order, middle in [(None, "bob"), (ORDER, "zed"), (["cat"] + ORDER[:3] + ORDER[4:], "cat")]:
            behind, answers = self.check_run(sample(), deeds, order)
            self.assertEqual(answers, [True] * 5)
            self.assertEqual(webs.debt(behind, "ann", middle), webs.debt(sample(), "ann", middle) + 1)

    def test_great_numbers(self):
        lines = {pair: GREAT for pair in itertools.permutations(webs.HOUSES, 2)}
        book = webs.made(webs.HOUSES, lines, {("bob", "ann"): GREAT})
        deeds = [
            Turn(webs.HOUSES, GREAT + 1), Turn(webs.HOUSES, GREAT), Pay("ann", "bob", 8 * GREAT + 1),
            Pay("ann", "bob", 8 * GREAT), Pay("ann", "bob", 1), Pay("bob", "ann", 10 ** 60 - 1),
            Trust("ann", "bob", GREAT), Trust("ann", "bob", GREAT - 1), Leave("cat"),
        ]
        behind, answers = self.check_run(book, deeds)
        self.assertEqual(answers, [False, True, False, True, False, True, True, True, True])
        self.assertEqual(webs.standing_of(behind, "ann"), 7 * GREAT - 10 ** 60 + 1)


class OneByOne(Checks):
    def test_chance_histories(self):
        counts = {}
        for seed in range(300):
            chance = random.Random(seed)
            book = webs.some_book(chance, chance.randint(3, 5), 3)
            deeds = [chance_deed(chance, book) for turn in range(chance.randint(1, 7))]
            order = chance.choice([None, webs.shuffled(chance, book.houses + ["zed", "moe"])])
            wanted = one_by_one(book, deeds, order)
            if isinstance(wanted, type):
                self.assertIs(things.refusal(run, book, deeds, order), wanted)
                counts[wanted] = counts.get(wanted, 0) + 1
            else:
                behind, answers = self.check_run(book, deeds, order)
                self.assertEqual((things.values(behind), answers), wanted)
                for answer in answers:
                    counts[answer] = counts.get(answer, 0) + 1
        # Else the histories would be too plain to tell anything of one of these.
        self.assertGreater(min(counts[answer] for answer in [True, False, NoHouse, NoAmount, Twice]), 10)

    def test_chance_histories_without_refusal(self):
        for seed in range(40):
            chance = random.Random(seed)
            book = webs.some_book(chance, 4, 3)
            deeds = history_without_refusal(chance, book, 15)
            behind, answers = self.check_run(book, deeds)
            self.assertEqual((things.values(behind), answers), one_by_one(book, deeds, None))

    def test_a_history_in_two_parts(self):
        for seed in range(40):
            chance = random.Random(seed)
            book = webs.some_book(chance, 4, 3)
            deeds = history_without_refusal(chance, book, 10)
            cut = chance.randint(0, 10)
            first = run(book, deeds[:cut])
            second = run(first[0], deeds[cut:])
            behind, answers = run(book, deeds)
            webs.check_same(self, behind, second[0])
            self.assertEqual(answers, first[1] + second[1])


class Refusals(unittest.TestCase):
    def refused(self, wanted, deeds, order):
        book = sample()
        before = list(deeds)
        self.assertIs(things.refusal(run, book, deeds, order), wanted)
        webs.check_same(self, book, sample())
        self.assertEqual(deeds, before)

    def test_each_other_refusal_is_that_of_the_history(self):
        for place, (deed, wanted) in enumerate(refused_by_the_history()):
            for order in [None, ORDER]:
                with self.subTest(place=place, order=order):
                    self.refused(wanted, [deed], order)
                    self.refused(wanted, [Deed(), Pay("ann", "dan", 1), deed], order)
                    self.refused(wanted, [deed, Deed(), Pay("ann", "dan", 1)], order)

    def test_behind_deeds_that_are_answered_with_false(self):
        for deed, wanted in refused_by_the_history():
            for other, as_false in refused_as_false():
                self.refused(wanted, [other, deed, other], None)

    def test_the_first_refusal_is_the_historys(self):
        refused = refused_by_the_history()
        for (first, wanted), (second, other) in itertools.permutations(refused, 2):
            self.refused(wanted, [first, second], None)

    def test_houses_and_numbers_of_anything(self):
        for place, thing in enumerate(things.no_names()):
            with self.subTest(place=place):
                self.refused(NoHouse, [Join(thing)], None)
                self.refused(NoHouse, [Pay("ann", thing, 1)], ORDER)
        for place, thing in enumerate(things.no_amounts()):
            with self.subTest(place=place):
                self.refused(NoAmount, [Pay("ann", "dan", thing)], ORDER)
        for place, thing in enumerate(things.no_lines()):
            with self.subTest(place=place):
                self.refused(NoAmount, [Trust("ann", "dan", thing)], None)

    def test_what_is_done_ahead_counts(self):
        self.refused(Twice, [Join("zed"), Join("zed")], ORDER)
        self.refused(NoHouse, [Trust("eve", "cat", 1), Pay("cat", "eve", 1), Leave("eve"), Pay("ann", "eve", 1)], None)


class KinBooks(Checks):
    def test_the_same_answers_and_kin_books_behind(self):
        counts = {True: 0, False: 0, "turned": 0}
        for seed in range(120):
            chance = random.Random(seed)
            first = webs.some_book(chance, chance.randint(3, 5), 3)
            second = webs.rolled(chance, first, 9)
            deeds = history_without_refusal(chance, first, 10)
            names = webs.HOUSES + ["zed", "moe"]
            orders = [chance.choice([None, webs.shuffled(chance, names)]), webs.shuffled(chance, names)]
            told = []
            for book, order in zip([first, second], orders):
                mixed, places = with_turns(chance, book, deeds, order)
                behind, answers = self.check_run(book, mixed, order)
                told.append((behind, [answers[place] for place in places]))
                counts["turned"] += sum(answers) - sum(told[-1][1])
            self.assertEqual(told[0][1], told[1][1])
            self.assertIs(are_kin(told[0][0], told[1][0]), True)
            self.assertEqual(webs.standings_of(told[0][0]), webs.standings_of(told[1][0]))
            for answer in told[0][1]:
                counts[answer] += 1
        # Else the histories would be too plain to tell anything.
        self.assertGreater(min(counts.values()), 100)

    def test_every_kin_book_and_every_order_of_a_small_book(self):
        houses = ["ann", "bob", "cat"]
        book = webs.made(houses, {pair: 1 for pair in itertools.permutations(houses, 2)}, {})
        deeds = [
            Pay("ann", "bob", 1), Trust("bob", "cat", 0), Pay("bob", "cat", 2), Trust("ann", "bob", 0),
            Pay("ann", "cat", 1), Leave("bob"), Pay("cat", "bob", 1), Leave("bob"),
        ]
        wanted = run(book, deeds)
        kin = [webs.made(book.houses, book.lines, {
            (pair if number > 0 else pair[::-1]): abs(number) for pair, number in owed.items() if number
        }) for owed in webs.debts_in_kin_books(book)]
        self.assertEqual(len(kin), 3)
        for other, order in itertools.product(kin, itertools.permutations(book.houses)):
            behind, answers = self.check_run(other, deeds, list(order))
            self.assertEqual(answers, wanted[1])
            self.assertIs(are_kin(behind, wanted[0]), True)
        self.assertEqual(sorted(set(wanted[1])), [False, True])


class TheSameEachTime(unittest.TestCase):
    def test_for_equal_books_and_deeds(self):
        for seed in range(60):
            chance = random.Random(seed)
            book = webs.some_book(chance, chance.randint(3, 6), 3)
            deeds = history_without_refusal(chance, book, 8)
            order = chance.choice([None, webs.shuffled(chance, book.houses + ["zed", "moe"])])
            first = run(book, deeds, order)
            second = run(webs.again(book), list(deeds), order)
            webs.check_same(self, first[0], second[0])
            self.assertEqual(first[1], second[1])


class TheAskersOwn(unittest.TestCase):
    def test_the_book_and_the_answers(self):
        for deeds in [[], [Deed()], [Pay("ann", "dan", 5)], [Join("zed")], [Deed(), Pay("ann", "dan", 1)]]:
            book = sample()
            first, second = run(book, deeds), run(book, deeds)
            webs.check_own(self, [part for told in [first, second] for part in [
                told[1], told[0].houses, told[0].lines, told[0].owed]] + [book.houses, book.lines, book.owed])
            before = (things.values(second[0]), list(second[1]))
            first[0].houses.clear()
            first[0].lines.clear()
            first[0].owed.clear()
            first[1].append(None)
            self.assertEqual((things.values(second[0]), second[1]), before)
            webs.check_same(self, book, sample())

    def test_deeds_and_order_may_be_changed_behind_the_call(self):
        deeds, order = [Join("zed"), Turn(["ann", "cat", "dan", "bob"], 1), Pay("ann", "dan", 1)], list(ORDER)
        behind, answers = run(sample(), deeds, order)
        before = (things.values(behind), list(answers))
        deeds[1].ring.clear()
        deeds.clear()
        order.reverse()
        self.assertEqual((things.values(behind), answers), before)

    def test_elder_books_stay(self):
        for seed in range(20):
            chance = random.Random(seed)
            book = webs.some_book(chance, 4, 3)
            elders = []
            for deed in history_without_refusal(chance, book, 10):
                elders.append((book, things.values(book)))
                book = run(book, [deed])[0]
            for elder, before in elders:
                self.assertEqual(things.values(elder), before)

    def test_standings_of_the_book_behind(self):
        behind = run(sample(), [Pay("ann", "dan", 1), Pay("ann", "dan", 9), Join("moe")], ORDER)[0]
        self.assertEqual(standings(behind), {"ann": 3, "bob": 0, "cat": -1, "dan": -3, "eve": 1, "moe": 0})


if __name__ == "__main__":
    unittest.main()
