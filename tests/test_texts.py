"""Promises 26 and 27, and 2, 3, 5 and 6 over them: rows that are read, written books, rows that come up to a book."""

import itertools
import random
import unittest

import rows
import things
import webs
from trustways.books import joined, no_houses
from trustways.deeds import Join, Leave, Pay, Trust, Turn
from trustways.errors import NoChain, NoHouse, NoRoom, NoRow, StillOwes, TooLow, TooMuch, Twice
from trustways.histories import run
from trustways.texts import come_up, read, written

GREAT = webs.GREAT


def full_book():
    """Eight houses that trust one another with the greatest line, each two of which owe one another all of it."""
    lines = {pair: GREAT for pair in itertools.permutations(webs.HOUSES, 2)}
    owed = {pair if sum(map(ord, "".join(pair))) % 2 else pair[::-1]: GREAT
            for pair in itertools.combinations(webs.HOUSES, 2)}
    return webs.made(webs.HOUSES, lines, owed)


def chance_name(chance):
    return "".join(chance.choice("abcz") for place in range(chance.randint(1, 8)))


def chance_names(chance, count):
    told = []
    while len(told) < count:
        name = chance_name(chance)
        if name not in told:
            told.append(name)
    return told


def chance_number(chance, least, figures):
    return chance.choice([least, 10 ** figures - 1, chance.randrange(least, 10 ** chance.randint(1, figures))])


def chance_deed(chance):
    """A deed with such things as rows are told of."""
    one, other = chance_names(chance, 2)
    ring = chance_names(chance, chance.randint(3, 8))
    amount = chance_number(chance, 1, 60)
    return chance.choice([
        Join(one), Leave(other), Trust(one, other, chance_number(chance, 0, 59)), Pay(one, other, amount),
        Turn(ring, amount),
    ])


def plain_rows(book):
    """The rows of a book in the order told, put together from its values."""
    told = [f"join {house}" for house in sorted(book.houses)]
    for word, numbers in [("trust", book.lines), ("pay", book.owed)]:
        for one, other in itertools.product(sorted(book.houses), repeat=2):
            if (one, other) in numbers:
                told.append(f"{word} {one} {other} {numbers[(one, other)]}")
    return told


class Read(unittest.TestCase):
    def check_read(self, row):
        """That the row is read to the deed it tells, whose row it is."""
        deed = read(row)
        self.assertEqual(rows.told_by(deed), rows.plain_reading(row))
        for thing in rows.told_by(deed)[1]:
            self.assertIn(type(thing), [str, int, list])
        self.assertEqual(deed.row(), row)
        self.assertIs(type(deed.row()), str)

    def refused(self, thing):
        self.assertIs(things.refusal(read, thing), NoRow)

    def test_one_row_of_each_deed(self):
        join, leave, trust = read("join ann"), read("leave bob"), read("trust ann bob 70")
        pay, turn = read("pay bob ann 12"), read("turn 3 cat ann bob")
        self.assertEqual([type(deed) for deed in [join, leave, trust, pay, turn]], [Join, Leave, Trust, Pay, Turn])
        self.assertEqual((join.house, leave.house), ("ann", "bob"))
        self.assertEqual((trust.one, trust.other, trust.line), ("ann", "bob", 70))
        self.assertEqual((pay.payer, pay.taker, pay.amount), ("bob", "ann", 12))
        self.assertEqual((turn.ring, turn.amount), (["cat", "ann", "bob"], 3))

    def test_rows(self):
        for row in rows.rows():
            with self.subTest(row=row):
                self.check_read(row)

    def test_no_rows(self):
        for row in rows.no_rows() + rows.questions():
            with self.subTest(row=row):
                self.refused(row)

    def test_the_least_and_the_greatest_numbers(self):
        for row in [f"trust a b {10 ** 59 - 1}", "trust a b 0", f"pay a b {10 ** 60 - 1}", "pay a b 1",
                    f"turn {10 ** 60 - 1} a b c", "turn 1 a b c"]:
            self.check_read(row)
        for row in [f"trust a b {10 ** 59}", "trust a b -1", f"pay a b {10 ** 60}", "pay a b 0",
                    f"turn {10 ** 60} a b c", "turn 0 a b c"]:
            self.refused(row)

    def test_numbers_of_every_length(self):
        for figures in range(1, 70):
            number = "1" + "0" * (figures - 1)
            for row, greatest in [(f"trust a b {number}", 59), (f"pay a b {number}", 60), (f"turn {number} a b c", 60)]:
                with self.subTest(row=row):
                    if figures <= greatest:
                        self.check_read(row)
                    else:
                        self.refused(row)
        for figures in [100, 4300, 4301, 10000]:
            for row in ["trust a b " + "0" * figures, "pay a b " + "9" * figures, "turn " + "1" * figures + " a b c"]:
                self.refused(row)

    def test_rings_of_every_length(self):
        for count in range(12):
            row = " ".join(["turn 1"] + list("abcdefghijkl")[:count])
            if 3 <= count <= 8:
                self.check_read(row)
            else:
                self.refused(row)

    def test_names_of_every_length(self):
        for length in range(12):
            name = "m" * length
            for row in [f"join {name}", f"leave {name}", f"trust {name} a 1", f"pay a {name} 1", f"turn 1 a {name} c"]:
                if 1 <= length <= 8:
                    self.check_read(row)
                else:
                    self.refused(row)

    def test_no_names(self):
        for name in things.texts_no_names():
            with self.subTest(name=name):
                for row in [f"join {name}", f"leave {name}", f"trust {name} zed 1", f"trust zed {name} 1",
                            f"pay {name} zed 1", f"pay zed {name} 1"]:
                    self.refused(row)
                # Two names with a blank between them are a row of a turn still.
                if name != "a b":
                    self.refused(f"turn 1 zed yan {name}")
                    self.refused(f"turn 1 {name} zed yan")

    def test_every_sign_in_numbers_and_names(self):
        for sign in [chr(code) for code in range(ord(" "), ord("~") + 1)] + ["\t", "\n"]:
            with self.subTest(sign=sign):
                for row in [f"trust a b {sign}", f"trust a b 1{sign}", f"pay a b {sign}1", f"pay a b 1{sign}1",
                            f"turn 1{sign} a b c", f"turn {sign} a b c", f"join {sign}", f"join a{sign}b",
                            f"leave {sign}z", f"trust a{sign} b 1", f"pay a {sign}b 1", f"turn 1 a b {sign}c"]:
                    if rows.is_row(row):
                        self.check_read(row)
                    else:
                        self.refused(row)

    def test_figures_of_other_scripts_are_none(self):
        for figure in ["\u0661", "\u0967", "\uff11", "\u00b2", "\u00bd", "\u2460"]:
            for row in [f"trust a b {figure}", f"pay a b {figure}", f"pay a b 1{figure}", f"turn {figure} a b c"]:
                self.refused(row)

    def test_other_blanks_are_none(self):
        for sign in "\t\n\r\x0b\x0c\u00a0\u2003\x00,;":
            for row in ["join ann", "trust ann bob 5", "pay ann bob 5", "turn 1 ann bob cat", "leave ann"]:
                for place in [place for place, letter in enumerate(row) if letter == " "]:
                    self.refused(row[:place] + sign + row[place + 1:])
                self.refused(row + sign)
                self.refused(sign + row)

    def test_of_anything(self):
        anything = things.no_names() + things.names() + [
            ["join ann"], ("join ann",), ["join", "ann"], ("join", "ann"), {"join": "ann"}, {"join ann": True},
            b"join ann", {"join ann"}, Join("ann"), read, no_houses(), [["join", "ann"]], bytearray(b"join ann"),
            iter(["join ann"]),
        ]
        for place, thing in enumerate(anything):
            with self.subTest(place=place):
                self.refused(thing)

    def test_rows_of_deeds(self):
        for seed in range(400):
            deed = chance_deed(random.Random(seed))
            again = read(deed.row())
            self.assertEqual(rows.told_by(again), rows.told_by(deed))
            self.assertEqual(again.row(), deed.row())

    def check_spoiled(self, texts):
        counts = {True: 0, False: 0}
        for text in texts:
            if rows.is_row(text):
                self.check_read(text)
            else:
                self.refused(text)
            counts[rows.is_row(text)] += 1
        # Else the rows would be spoiled too much, or not at all.
        self.assertGreater(min(counts.values()), 100)

    def test_spoiled_in_one_sign(self):
        self.check_spoiled(text for row in rows.rows() for text in rows.spoiled_in_a_sign(row))

    def test_spoiled_in_one_word(self):
        self.check_spoiled(text for row in rows.rows() for text in rows.spoiled_in_a_word(row))

    def test_each_deed_is_read_anew(self):
        first, second = read("turn 1 ann bob cat"), read("turn 1 ann bob cat")
        first.ring.clear()
        self.assertEqual(second.ring, ["ann", "bob", "cat"])
        self.assertEqual(read("turn 1 ann bob cat").ring, ["ann", "bob", "cat"])


class Written(unittest.TestCase):
    def check_written(self, book):
        """That the rows are told in their order, come up to the same book, and nothing changed."""
        before = things.values(book)
        told = written(book)
        self.assertEqual(things.values(book), before)
        self.assertIs(type(told), list)
        self.assertTrue(all(type(row) is str for row in told))
        self.assertEqual(told, plain_rows(book))
        found = come_up(told)
        webs.check_book(self, found)
        webs.check_same(self, found, book)
        return told

    def test_a_book(self):
        lines = {("bob", "ann"): 1, ("ann", "bob"): 5, ("ann", "cat"): 10, ("cat", "ann"): 2}
        book = webs.made(["cat", "bob", "ann"], lines, {("cat", "ann"): 2, ("ann", "bob"): 3})
        self.assertEqual(self.check_written(book), [
            "join ann", "join bob", "join cat", "trust ann bob 5", "trust ann cat 10", "trust bob ann 1",
            "trust cat ann 2", "pay ann bob 3", "pay cat ann 2",
        ])

    def test_no_house_and_one_house(self):
        self.assertEqual(self.check_written(no_houses()), [])
        self.assertEqual(self.check_written(joined(no_houses(), "zed")), ["join zed"])

    def test_houses_whose_names_are_words_of_rows_or_begin_alike(self):
        houses = ["join", "trust", "pay", "turn", "leave", "a", "aa", "ab"]
        lines = {
            ("trust", "pay"): 1, ("aa", "a"): 2, ("ab", "a"): 3, ("a", "ab"): 4, ("a", "aa"): 5, ("turn", "join"): 6,
        }
        self.check_written(webs.made(houses, lines, {("turn", "join"): 6, ("ab", "a"): 1}))

    def test_houses_without_lines_and_lines_without_debts(self):
        self.check_written(webs.made(webs.HOUSES, {}, {}))
        self.check_written(webs.made(webs.HOUSES, {pair: 1 for pair in itertools.permutations(webs.HOUSES, 2)}, {}))

    def test_eight_houses_with_great_numbers(self):
        told = self.check_written(full_book())
        self.assertEqual(len(told), 8 + 56 + 28)
        self.assertEqual(told[-1].split(" ")[-1], "9" * 59)

    def test_chance_books(self):
        for seed in range(60):
            chance = random.Random(seed)
            book = webs.some_book(chance, chance.randint(2, 8), chance.choice([1, 3, 9, GREAT]))
            told = self.check_written(book)
            self.assertEqual(written(webs.again(book)), told)
            self.check_written(webs.rolled(chance, book, 9))

    def test_books_that_payments_made_through_many_houses(self):
        for seed in range(30):
            chance = random.Random(seed)
            book = webs.some_book(chance, 5, 3)
            for turn in range(8):
                one, other = chance.sample(book.houses, 2)
                book = run(book, [Pay(one, other, chance.randint(1, 5))], webs.some_order(chance, book))[0]
            self.check_written(book)

    def test_what_is_told_is_the_askers_own(self):
        book = webs.made(["ann", "bob"], {("ann", "bob"): 5}, {("ann", "bob"): 2})
        first, second = written(book), written(book)
        first.clear()
        self.assertEqual(second, ["join ann", "join bob", "trust ann bob 5", "pay ann bob 2"])
        self.assertEqual(written(book), second)
        self.assertIsNot(written(book), second)


class ComeUp(unittest.TestCase):
    # Ann owes dan 2 through bob, and could owe them through cat.
    ROWS = [
        "join ann", "join bob", "join cat", "join dan", "trust ann bob 3", "trust bob dan 3", "pay ann dan 2",
        "trust ann cat 3", "trust cat dan 3",
    ]

    def refused(self, wanted, told):
        before = list(told)
        self.assertIs(things.refusal(come_up, told), wanted)
        self.assertEqual(told, before)

    def test_no_rows(self):
        self.assertEqual(things.values(come_up([])), ([], {}, {}))

    def test_deeds_of_every_class(self):
        book = come_up(self.ROWS + ["turn 1 ann cat dan bob"])
        webs.check_book(self, book)
        self.assertEqual(book.houses, ["ann", "bob", "cat", "dan"])
        self.assertEqual(book.owed, {("ann", "bob"): 1, ("bob", "dan"): 1, ("ann", "cat"): 1, ("cat", "dan"): 1})
        book = come_up(self.ROWS + ["leave bob", "pay ann dan 1"])
        self.assertEqual(things.values(book), (
            ["ann", "cat", "dan"], {("ann", "cat"): 3, ("cat", "dan"): 3}, {("ann", "cat"): 3, ("cat", "dan"): 3},
        ))
        book = come_up(self.ROWS + ["trust ann bob 1", "trust bob dan 0"])
        self.assertEqual(book.lines, {("ann", "bob"): 1, ("ann", "cat"): 3, ("cat", "dan"): 3})
        self.assertEqual(book.owed, {("ann", "cat"): 2, ("cat", "dan"): 2})

    def test_they_are_done_as_the_deeds_are_by_the_houses_sorted(self):
        for seed in range(60):
            chance = random.Random(seed)
            book, told = no_houses(), []
            for turn in range(30):
                row = rows.chance_row(chance, book)
                if things.refusal(read(row).acted, book) is None:
                    book = read(row).acted(book)
                    told.append(row)
            webs.check_same(self, come_up(told), book)
            self.assertEqual(run(no_houses(), [read(row) for row in told])[1], [True] * len(told))

    def test_each_refusal(self):
        for row, wanted in self.refusals():
            with self.subTest(row=row):
                self.refused(wanted, self.ROWS + [row])
                self.refused(wanted, self.ROWS + [row, "join eve"])

    def refusals(self):
        return [
            ("join ann", Twice), ("trust ann eve 1", NoHouse), ("trust eve ann 0", NoHouse), ("pay ann eve 1", NoHouse),
            ("pay eve ann 1", NoHouse), ("leave eve", NoHouse), ("turn 1 ann bob eve", NoChain),
            ("pay ann dan 5", TooMuch), ("leave ann", StillOwes), ("turn 4 ann cat dan bob", NoRoom),
            ("join Eve", NoRow), ("", NoRow), (None, NoRow), (5, NoRow), (["join eve"], NoRow), ("houses", NoRow),
            ("owes ann bob", NoRow), ("pay ann ann 1", NoRow), ("trust ann bob 01", NoRow),
            ("join eve ", NoRow), (True, NoRow), (Join("eve"), NoRow), ({}, NoRow),
        ]

    def test_too_low(self):
        for row in ["trust ann bob 1", "leave bob"]:
            self.refused(TooLow, self.ROWS[:7] + [row])

    def test_the_first_refusal_as_it_comes(self):
        for (first, wanted), (second, other) in itertools.permutations(self.refusals(), 2):
            self.refused(wanted, self.ROWS + [first, second])
            self.refused(wanted, self.ROWS + [first, "join eve", second])

    def test_from_the_book_without_houses(self):
        for row, wanted in [("leave ann", NoHouse), ("trust ann bob 1", NoHouse), ("pay ann bob 1", NoHouse),
                            ("turn 1 ann bob cat", NoChain), ("", NoRow)]:
            self.refused(wanted, [row])

    def test_of_anything_as_a_row(self):
        for place, thing in enumerate(things.no_names() + things.names() + rows.no_rows() + rows.questions()):
            with self.subTest(place=place):
                for told in [[thing], ["join yan", thing], [thing, "join yan", "join yan"]]:
                    self.assertIs(things.refusal(come_up, told), NoRow)
                self.assertIs(things.refusal(come_up, ["join yan", "join yan", thing]), Twice)

    def test_great_numbers(self):
        told = ["join " + house for house in webs.HOUSES]
        told += [f"trust {one} {other} {GREAT}" for one, other in itertools.permutations(webs.HOUSES, 2)]
        book = come_up(told + [f"pay ann bob {7 * GREAT}"])
        self.assertEqual(webs.standing_of(book, "ann"), 7 * GREAT)
        self.refused(TooMuch, told + [f"pay ann bob {7 * GREAT + 1}"])
        self.refused(NoRow, told + [f"pay ann bob {10 ** 60}"])
        self.refused(NoRow, told + [f"trust ann bob {GREAT + 1}"])

    def test_rows_are_not_kept(self):
        told = list(self.ROWS)
        book = come_up(told)
        before = things.values(book)
        told.clear()
        self.assertEqual(things.values(book), before)

    def test_the_book_is_the_askers_own(self):
        for told in [[], ["join ann"], self.ROWS]:
            first, second = come_up(told), come_up(told)
            before = things.values(second)
            first.houses.clear()
            first.lines.clear()
            first.owed.clear()
            self.assertEqual(things.values(second), before)
            self.assertEqual(things.values(come_up(told)), before)


if __name__ == "__main__":
    unittest.main()
