"""Promise 21, 26 of the rows, and 2, 3 and 5 over them: deeds that are done to books, and their rows."""

import itertools
import random
import unittest

import things
import webs
from trustways.books import joined, no_houses
from trustways.chains import turned
from trustways.deeds import Deed, Join, Leave, Pay, Trust, Turn
from trustways.errors import NoAmount, NoChain, NoHouse, NoRoom, StillOwes, TooLow, TooMuch, Twice
from trustways.kin import are_kin
from trustways.leaving import gone
from trustways.payments import paid
from trustways.spreads import lined_anew

GREAT = webs.GREAT
CLASSES = [Join, Trust, Pay, Turn, Leave]
ORDER = ["zed", "eve", "dan", "cat", "bob", "ann"]


def sample():
    """Ann owes dan 2 through bob, and could owe them through cat; eve has lines and no debts."""
    lines = {
        ("ann", "bob"): 3, ("bob", "dan"): 3, ("ann", "cat"): 3, ("cat", "dan"): 3, ("dan", "ann"): 1,
        ("eve", "ann"): 4, ("bob", "eve"): 1,
    }
    return webs.made(["ann", "bob", "cat", "dan", "eve"], lines, {("ann", "bob"): 2, ("bob", "dan"): 2})


def each_deed():
    """A deed of each class that the sample lets be done."""
    return [
        Deed(), Join("fay"), Trust("ann", "bob", 0), Trust("eve", "cat", 5), Pay("ann", "dan", 3),
        Turn(["ann", "cat", "dan", "bob"], 2), Leave("eve"), Leave("bob"),
    ]


def each_refused():
    """Deeds that the sample refuses, with the refusal of each."""
    return [
        (Join("ann"), Twice), (Join("Fay"), NoHouse), (Trust("ann", "zed", 1), NoHouse),
        (Trust("ann", "bob", 10 ** 59), NoAmount), (Pay("ann", "ann", 1), NoHouse), (Pay("ann", "dan", 0), NoAmount),
        (Pay("ann", "dan", 5), TooMuch), (Turn(["ann", "bob"], 1), NoChain), (Turn(["ann", "bob", "dan"], 0), NoAmount),
        (Turn(["ann", "bob", "dan"], 2), NoRoom), (Leave("zed"), NoHouse), (Leave("dan"), StillOwes),
    ]


def chance_deed(chance, book):
    """A deed, with the call and the things of its point."""
    houses = book.houses + ["zed", "yan"]
    one, other = chance.choice(houses), chance.choice(houses)
    number = chance.choice([0, 1, 1, 2, 3, 5])
    ring = webs.shuffled(chance, book.houses)[:chance.randint(min(2, len(book.houses)), len(book.houses))]
    return chance.choice([
        (Join(one), joined, [one]),
        (Trust(one, other, number), lambda *args: lined_anew(*args)[0], [one, other, number]),
        (Pay(one, other, number), lambda *args: paid(*args)[0], [one, other, number]),
        (Turn(ring, number), turned, [ring, number]),
        (Leave(one), lambda *args: gone(*args)[0], [one]),
    ])


def row_checked(case, deed, wanted):
    told = deed.row()
    case.assertIs(type(told), str)
    case.assertEqual(told, wanted)


class Classes(unittest.TestCase):
    def test_all_stand_under_deed_and_none_under_another_one(self):
        for one in CLASSES:
            self.assertTrue(issubclass(one, Deed))
            self.assertFalse(issubclass(Deed, one))
            for other in CLASSES:
                self.assertEqual(issubclass(one, other), one is other)

    def test_each_deed_has_its_values(self):
        join, leave, trust = Join("ann"), Leave("bob"), Trust("ann", "bob", 7)
        pay, turn = Pay("cat", "dan", 10 ** 60 - 1), Turn(["ann", "bob", "cat"], 9)
        self.assertEqual((join.house, leave.house), ("ann", "bob"))
        self.assertEqual((trust.one, trust.other, trust.line), ("ann", "bob", 7))
        self.assertEqual((pay.payer, pay.taker, pay.amount), ("cat", "dan", 10 ** 60 - 1))
        self.assertEqual((turn.ring, turn.amount), (["ann", "bob", "cat"], 9))
        self.assertIs(type(turn.ring), list)

    def test_deeds_share_nothing(self):
        first, second = Pay("ann", "bob", 1), Pay("cat", "dan", 2)
        self.assertEqual((first.payer, first.taker, first.amount), ("ann", "bob", 1))
        self.assertEqual((second.payer, second.taker, second.amount), ("cat", "dan", 2))


class Acted(unittest.TestCase):
    def check(self, deed, book, order, call, args):
        """That the deed does or refuses what the call does, and changes nothing."""
        before = things.values(book)
        wanted = things.refusal(call, book, *args)
        self.assertIs(things.refusal(deed.acted, book, order), wanted)
        if wanted is None:
            behind = deed.acted(book, order)
            webs.check_book(self, behind)
            webs.check_same(self, behind, call(book, *args))
        self.assertEqual(things.values(book), before)
        return wanted

    def test_a_plain_deed_does_nothing(self):
        for book in [sample(), no_houses(), joined(no_houses(), "ann")]:
            for behind in [Deed().acted(book), Deed().acted(book, ORDER), Deed().acted(book, order=ORDER)]:
                webs.check_book(self, behind)
                webs.check_same(self, behind, book)

    def test_join(self):
        self.assertEqual(Join("fay").acted(sample()).houses, ["ann", "bob", "cat", "dan", "eve", "fay"])
        self.assertEqual(things.values(Join("ann").acted(no_houses())), (["ann"], {}, {}))

    def test_trust_turns_rings_where_it_must(self):
        behind = Trust("ann", "bob", 0).acted(sample())
        self.assertEqual(behind.owed, {("ann", "cat"): 2, ("cat", "dan"): 2})
        self.assertNotIn(("ann", "bob"), behind.lines)
        self.assertEqual(Trust("eve", "bob", GREAT).acted(sample()).lines[("eve", "bob")], GREAT)
        self.assertEqual(Trust("eve", "bob", GREAT).acted(sample()).owed, sample().owed)

    def test_pay_goes_by_the_order(self):
        self.assertEqual(Pay("ann", "dan", 1).acted(sample()).owed, {("ann", "bob"): 3, ("bob", "dan"): 3})
        for behind in [Pay("ann", "dan", 1).acted(sample(), ORDER), Pay("ann", "dan", 1).acted(sample(), order=ORDER)]:
            self.assertEqual(behind.owed, {
                ("ann", "bob"): 2, ("bob", "dan"): 2, ("ann", "cat"): 1, ("cat", "dan"): 1,
            })
        webs.check_same(self, Pay("ann", "dan", 1).acted(sample(), None), Pay("ann", "dan", 1).acted(sample()))

    def test_turn(self):
        behind = Turn(["ann", "cat", "dan", "bob"], 2).acted(sample())
        self.assertEqual(behind.owed, {("ann", "cat"): 2, ("cat", "dan"): 2})

    def test_leave(self):
        self.assertEqual(Leave("eve").acted(sample()).houses, ["ann", "bob", "cat", "dan"])
        behind = Leave("bob").acted(sample())
        self.assertEqual(behind.owed, {("ann", "cat"): 2, ("cat", "dan"): 2})
        self.assertEqual(behind.houses, ["ann", "cat", "dan", "eve"])

    def test_chance_deeds_against_the_calls_of_their_points(self):
        seen = {}
        for seed in range(800):
            chance = random.Random(seed)
            book = webs.some_book(chance, chance.randint(2, 5), 3)
            for turn in range(5):
                deed, call, args = chance_deed(chance, book)
                order = chance.choice([None, webs.some_order(chance, book)])
                if isinstance(deed, Pay):
                    args = args + [order]
                answer = (type(deed), self.check(deed, book, order, call, args))
                seen[answer] = seen.get(answer, 0) + 1
        for answer in [(each, None) for each in CLASSES] + [
            (Join, Twice), (Trust, NoHouse), (Trust, TooLow), (Pay, NoHouse), (Pay, NoAmount), (Pay, TooMuch),
            (Turn, NoChain), (Turn, NoAmount), (Turn, NoRoom), (Leave, NoHouse), (Leave, StillOwes), (Leave, TooLow),
        ]:
            # Else the deeds would be too plain to tell anything of one of these.
            self.assertGreater(seen.get(answer, 0), 4, answer)

    def test_a_deed_may_be_done_again_and_to_other_books(self):
        for deed in each_deed():
            first = deed.acted(sample())
            things.refusal(deed.acted, no_houses())
            things.refusal(deed.acted, first)
            webs.check_same(self, deed.acted(sample()), first)
            webs.check_same(self, deed.acted(webs.again(sample())), first)

    def test_great_numbers(self):
        lines = {pair: GREAT for pair in itertools.permutations(webs.HOUSES, 2)}
        book = webs.made(webs.HOUSES, lines, {("bob", "ann"): GREAT})
        self.assertEqual(Turn(webs.HOUSES, GREAT).acted(book).owed[("hal", "ann")], GREAT)
        self.assertEqual(things.refusal(Turn(webs.HOUSES, GREAT + 1).acted, book), NoRoom)
        self.assertEqual(webs.standing_of(Pay("ann", "bob", 8 * GREAT).acted(book), "ann"), 7 * GREAT)
        self.assertEqual(things.refusal(Pay("ann", "bob", 8 * GREAT + 1).acted, book), TooMuch)


class Refusals(unittest.TestCase):
    def refused(self, wanted, deed):
        for order in [None, ORDER]:
            book = sample()
            self.assertIs(things.refusal(deed.acted, book, order), wanted)
            webs.check_same(self, book, sample())

    def test_one_of_each(self):
        for deed, wanted in each_refused():
            with self.subTest(row=deed.row()):
                self.refused(wanted, deed)

    def test_too_low(self):
        book = webs.made(["ann", "bob", "cat"], {("ann", "bob"): 3, ("bob", "cat"): 3}, {})
        book = Pay("ann", "cat", 2).acted(book)
        for deed in [Trust("ann", "bob", 1), Trust("bob", "cat", 0), Leave("bob")]:
            self.assertIs(things.refusal(deed.acted, book), TooLow)

    def test_houses_of_anything(self):
        for place, thing in enumerate(things.no_names()):
            with self.subTest(place=place):
                self.refused(NoHouse, Join(thing))
        for place, thing in enumerate(things.no_names() + things.names()):
            with self.subTest(place=place):
                self.refused(NoHouse, Leave(thing))
                for number in [1, None]:
                    for deed in [Trust(thing, "bob", number), Trust("ann", thing, number), Trust(thing, thing, number)]:
                        self.refused(NoHouse, deed)
                    for deed in [Pay(thing, "dan", number), Pay("ann", thing, number), Pay(thing, thing, number)]:
                        self.refused(NoHouse, deed)

    def test_numbers_of_anything(self):
        for place, thing in enumerate(things.no_amounts()):
            with self.subTest(place=place):
                self.refused(NoAmount, Pay("ann", "dan", thing))
                self.refused(NoAmount, Turn(["ann", "bob", "dan"], thing))
        for place, thing in enumerate(things.no_lines()):
            with self.subTest(place=place):
                self.refused(NoAmount, Trust("ann", "bob", thing))

    def test_rings_of_anything(self):
        rings = things.no_names() + things.names() + [
            "ann bob cat", ("ann", "bob", "cat"), {"ann": 1, "bob": 2, "cat": 3}, {"ann", "bob", "cat"}, [],
            ["ann"], ["ann", "bob"], ["ann", "bob", "ann"], ["ann", "bob", "zed"], [["ann", "bob", "cat"]],
            [["ann"], ["bob"], ["cat"]], ["ann", "bob", None], [things.Failing()] * 3, ["ann", True, "cat"],
            (["ann", "bob", "cat"],), sample(),
        ]
        for place, ring in enumerate(rings):
            for amount in [1, 0, None, things.Failing()]:
                with self.subTest(place=place):
                    self.refused(NoChain, Turn(ring, amount))


class Rows(unittest.TestCase):
    def test_a_plain_deed(self):
        row_checked(self, Deed(), "")

    def test_each_deed(self):
        row_checked(self, Join("ann"), "join ann")
        row_checked(self, Trust("ann", "bob", 7), "trust ann bob 7")
        row_checked(self, Trust("bob", "ann", 0), "trust bob ann 0")
        row_checked(self, Pay("ann", "bob", 12), "pay ann bob 12")
        row_checked(self, Turn(["cat", "ann", "bob"], 3), "turn 3 cat ann bob")
        row_checked(self, Leave("zzzzzzzz"), "leave zzzzzzzz")

    def test_rings_of_up_to_eight_houses_in_their_order(self):
        row_checked(self, Turn(["dan", "cat", "bob", "ann"], 10), "turn 10 dan cat bob ann")
        row_checked(self, Turn(webs.HOUSES[::-1], 1), "turn 1 hal gus fay eve dan cat bob ann")

    def test_great_numbers(self):
        row_checked(self, Trust("a", "b", GREAT), "trust a b " + "9" * 59)
        row_checked(self, Pay("a", "b", 10 ** 60 - 1), "pay a b " + "9" * 60)
        row_checked(self, Turn(["a", "b", "c"], 10 ** 59), "turn 1" + "0" * 59 + " a b c")

    def test_words_that_are_names_of_houses(self):
        row_checked(self, Join("join"), "join join")
        row_checked(self, Pay("pay", "turn", 1), "pay pay turn 1")

    def test_a_row_asks_no_book_and_stays(self):
        for deed in each_deed():
            before = deed.row()
            deed.acted(sample())
            things.refusal(deed.acted, no_houses())
            self.assertEqual(deed.row(), before)


class NothingKept(unittest.TestCase):
    def test_a_ring_may_be_changed_behind_the_call(self):
        ring = ["ann", "cat", "dan", "bob"]
        deed = Turn(ring, 2)
        behind = deed.acted(sample())
        ring.reverse()
        ring.pop()
        self.assertEqual(deed.ring, ["ann", "cat", "dan", "bob"])
        self.assertEqual(deed.row(), "turn 2 ann cat dan bob")
        webs.check_same(self, deed.acted(sample()), behind)

    def test_a_ring_is_not_changed(self):
        ring = ["ann", "cat", "dan", "bob"]
        deed = Turn(ring, 2)
        deed.acted(sample(), ORDER)
        deed.row()
        self.assertEqual(ring, ["ann", "cat", "dan", "bob"])
        self.assertEqual(deed.ring, ["ann", "cat", "dan", "bob"])

    def test_two_deeds_of_one_ring(self):
        ring = ["ann", "cat", "dan"]
        first, second = Turn(ring, 1), Turn(ring, 1)
        first.ring.clear()
        self.assertEqual((ring, second.ring), (["ann", "cat", "dan"], ["ann", "cat", "dan"]))

    def test_an_order_stays(self):
        order = list(ORDER)
        for deed in each_deed() + [deed for deed, wanted in each_refused()]:
            things.refusal(deed.acted, sample(), order)
            self.assertEqual(order, ORDER)

    def test_the_book_told_is_the_askers_own(self):
        for deed in each_deed():
            with self.subTest(row=deed.row()):
                book = sample()
                first, second = deed.acted(book), deed.acted(book)
                before = things.values(second)
                first.houses.clear()
                first.lines.clear()
                first.owed.clear()
                self.assertEqual(things.values(second), before)
                webs.check_same(self, book, sample())


class KinBooks(unittest.TestCase):
    def test_deeds_are_done_and_refused_alike_and_the_books_stay_kin(self):
        done = refused = 0
        for seed in range(60):
            chance = random.Random(seed)
            first = webs.some_book(chance, 5, 3)
            second = webs.rolled(chance, first, 9)
            for turn in range(15):
                deed = chance_deed(chance, first)[0]
                if isinstance(deed, Turn):
                    second = webs.rolled(chance, second, 2)
                    continue
                orders = [webs.some_order(chance, first), webs.some_order(chance, second)]
                wanted = things.refusal(deed.acted, first, orders[0])
                self.assertIs(things.refusal(deed.acted, second, orders[1]), wanted)
                if wanted is None:
                    first, second = deed.acted(first, orders[0]), deed.acted(second, orders[1])
                    done += 1
                else:
                    refused += wanted in [TooMuch, TooLow, StillOwes]
                self.assertIs(are_kin(first, second), True)
        # Else the deeds would be too plain to tell anything.
        self.assertGreater(min(done, refused), 100)


if __name__ == "__main__":
    unittest.main()
