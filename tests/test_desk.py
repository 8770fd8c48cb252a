"""Promise 28, and 2, 3, 5 and 6 over it: desks that are told rows of deeds and questions."""

import itertools
import random
import unittest

import rows
import things
import webs
from trustways.books import no_houses, owes, room, standing
from trustways.desk import Desk
from trustways.errors import NoChain, NoHouse, NoRoom, NoRow, StillOwes, TooLow, TooMuch, Twice, WayError
from trustways.histories import run
from trustways.payments import most
from trustways.spreads import highest, lowest
from trustways.texts import come_up, read, written

GREAT = webs.GREAT
OF_TWO = ["owes", "room", "most", "high", "low", "bar"]

# Ann owes dan 2 through bob, and could owe them through cat; eve may owe cat 1.
ROWS = [
    "join dan", "join ann", "join cat", "join bob", "trust ann bob 3", "trust bob dan 3", "pay ann dan 2",
    "trust ann cat 3", "trust cat dan 3", "join eve", "trust eve cat 1",
]


def desk_of(told):
    """A desk that was told these rows, all of which were done."""
    desk = Desk()
    for row in told:
        if desk.say(row) != "done":
            raise AssertionError(row)
    return desk


def sample():
    return desk_of(ROWS)


def answer_of(book, question):
    """What the functions tell of the question, as a text."""
    words = question.split(" ")
    if words == ["houses"]:
        return " ".join(book.houses)
    calls = {
        "stands": lambda: standing(book, words[1]),
        "owes": lambda: owes(book, words[1], words[2]),
        "room": lambda: room(book, words[1], words[2]),
        "most": lambda: most(book, words[1], words[2])[0],
        "high": lambda: highest(book, words[1], words[2])[0],
        "low": lambda: lowest(book, words[1], words[2])[0],
        "bar": lambda: " ".join(most(book, words[1], words[2])[2]),
    }
    return str(calls[words[0]]())


def all_questions(houses):
    told = ["houses"] + [f"stands {house}" for house in houses]
    return told + [f"{word} {one} {other}" for word in OF_TWO for one, other in itertools.permutations(houses, 2)]


class Checks(unittest.TestCase):
    def say(self, desk, row, wanted):
        """That the row is answered so."""
        told = desk.say(row)
        self.assertIs(type(told), str)
        self.assertEqual(told, wanted)

    def refused(self, desk, row, wanted):
        """That the row is refused so, and nothing changed."""
        before = things.values(desk.book)
        self.assertIs(things.refusal(desk.say, row), wanted)
        self.assertEqual(things.values(desk.book), before)
        webs.check_book(self, desk.book)

    def asked(self, desk, question):
        """That the question is answered as the functions tell, and nothing changed."""
        before = things.values(desk.book)
        self.say(desk, question, answer_of(desk.book, question))
        self.assertEqual(things.values(desk.book), before)


class Deeds(Checks):
    def test_a_new_desk(self):
        desk = Desk()
        webs.check_book(self, desk.book)
        self.assertEqual(things.values(desk.book), ([], {}, {}))

    def test_done_and_no(self):
        desk = Desk()
        for row, wanted in [
            ("join ann", "done"), ("join bob", "done"), ("trust ann bob 5", "done"), ("pay ann bob 6", "no"),
            ("pay ann bob 5", "done"), ("pay ann bob 1", "no"), ("trust ann bob 4", "no"), ("leave ann", "no"),
            ("pay bob ann 5", "done"), ("leave ann", "done"),
        ]:
            before = things.values(desk.book)
            self.say(desk, row, wanted)
            self.assertIs(things.values(desk.book) != before, wanted == "done")
            webs.check_book(self, desk.book)
        self.assertEqual(things.values(desk.book), (["bob"], {}, {}))

    def test_a_done_deed_that_changes_nothing(self):
        desk = desk_of(ROWS)
        before = things.values(desk.book)
        self.say(desk, "trust ann bob 3", "done")
        self.assertEqual(things.values(desk.book), before)

    def test_each_refusal_that_is_answered_no(self):
        for row, wanted in [
            ("pay ann dan 5", TooMuch), ("pay dan eve 1", TooMuch), ("leave ann", StillOwes), ("leave dan", StillOwes),
            ("turn 3 ann cat dan bob", NoRoom), ("turn 1 ann bob cat", NoRoom),
        ]:
            desk = sample()
            self.assertIs(things.refusal(read(row).acted, desk.book), wanted)
            before = things.values(desk.book)
            self.say(desk, row, "no")
            self.assertEqual(things.values(desk.book), before)

    def test_too_low_is_answered_no(self):
        for row in ["trust ann bob 1", "trust bob dan 0", "leave bob"]:
            desk = desk_of(ROWS[:7])
            self.assertIs(things.refusal(read(row).acted, desk.book), TooLow)
            before = things.values(desk.book)
            self.say(desk, row, "no")
            self.assertEqual(things.values(desk.book), before)

    def test_turns_that_are_needed(self):
        desk = sample()
        self.say(desk, "trust ann bob 0", "done")
        self.assertEqual(desk.book.owed, {("ann", "cat"): 2, ("cat", "dan"): 2})
        self.say(desk, "leave bob", "done")
        self.say(desk, "turn 1 ann cat dan", "no")
        self.say(desk, "trust dan ann 1", "done")
        self.say(desk, "turn 1 ann cat dan", "done")
        self.assertEqual(desk.book.owed, {("ann", "cat"): 3, ("cat", "dan"): 3, ("dan", "ann"): 1})

    def test_by_the_houses_sorted(self):
        desk = sample()
        self.say(desk, "pay ann dan 1", "done")
        self.assertEqual(desk.book.owed, {("ann", "bob"): 3, ("bob", "dan"): 3})

    def test_other_refusals_are_the_desks(self):
        for row, wanted in [
            ("join ann", Twice), ("trust ann zed 1", NoHouse), ("trust zed ann 0", NoHouse), ("pay ann zed 1", NoHouse),
            ("pay zed ann 1", NoHouse), ("leave zed", NoHouse), ("turn 1 ann bob zed", NoChain),
            ("turn 1 x y z", NoChain), ("trust x y 1", NoHouse), ("pay x y 1", NoHouse),
        ]:
            with self.subTest(row=row):
                self.refused(sample(), row, wanted)
        for row, wanted in [("leave a", NoHouse), ("pay a b 1", NoHouse), ("turn 1 a b c", NoChain)]:
            self.refused(Desk(), row, wanted)

    def test_the_desk_goes_on_behind_refusals(self):
        desk = Desk()
        for row in ROWS:
            for thing in ["leave zed", "pay ann zed 1", "turn 1 ann bob zed", "", None, "owes ann zed", row + " "]:
                things.refusal(desk.say, thing)
            self.say(desk, row, "done")
        webs.check_same(self, desk.book, sample().book)

    def test_chance_rows_as_the_history_of_each_alone_tells(self):
        counts = {"done": 0, "no": 0, Twice: 0}
        for seed in range(80):
            chance = random.Random(seed)
            desk = Desk()
            for turn in range(40):
                row = rows.chance_row(chance, desk.book)
                before = desk.book
                wanted = things.refusal(run, before, [read(row)])
                if wanted is None:
                    behind, answers = run(before, [read(row)])
                    self.say(desk, row, "done" if answers[0] else "no")
                    webs.check_same(self, desk.book, behind)
                    webs.check_book(self, desk.book)
                    wanted = "done" if answers[0] else "no"
                else:
                    self.refused(desk, row, wanted)
                counts[wanted] += 1
        # Else the rows would be too plain to tell anything of one of these.
        self.assertGreater(min(counts.values()), 100)

    def test_rows_of_a_book_are_told_to_a_desk(self):
        for seed in range(20):
            chance = random.Random(seed)
            book = webs.some_book(chance, chance.randint(2, 8), chance.choice([3, GREAT]))
            desk = desk_of(written(book))
            webs.check_same(self, desk.book, book)
            webs.check_same(self, desk.book, come_up(written(desk.book)))

    def test_great_numbers(self):
        desk = desk_of([f"join {house}" for house in webs.HOUSES])
        for one, other in itertools.permutations(webs.HOUSES, 2):
            self.say(desk, f"trust {one} {other} {GREAT}", "done")
        self.say(desk, f"pay ann bob {7 * GREAT + 1}", "no")
        self.say(desk, "most ann bob", str(7 * GREAT))
        self.say(desk, f"pay ann bob {7 * GREAT}", "done")
        self.say(desk, "stands ann", str(7 * GREAT))
        self.say(desk, "stands bob", str(-7 * GREAT))
        self.say(desk, "most bob ann", str(14 * GREAT))
        self.say(desk, "owes bob ann", str(0 - GREAT))
        self.say(desk, "room bob ann", str(2 * GREAT))
        self.say(desk, "room ann bob", "0")
        self.say(desk, "pay bob ann " + "9" * 60, "done")
        self.refused(desk, f"pay bob ann {10 ** 60}", NoRow)
        self.refused(desk, f"trust bob ann {GREAT + 1}", NoRow)


class Questions(Checks):
    def test_houses(self):
        desk = Desk()
        self.say(desk, "houses", "")
        desk.say("join bob")
        self.say(desk, "houses", "bob")
        desk.say("join ann")
        self.say(desk, "houses", "ann bob")
        self.say(sample(), "houses", "ann bob cat dan eve")
        desk.say("leave ann")
        desk.say("leave bob")
        self.say(desk, "houses", "")

    def test_each_question(self):
        desk = sample()
        for question, wanted in [
            ("owes ann bob", "2"), ("owes bob ann", "-2"), ("owes ann cat", "0"), ("owes cat ann", "0"),
            ("room ann bob", "1"), ("room bob ann", "2"), ("room dan cat", "0"), ("room eve cat", "1"),
            ("stands ann", "2"), ("stands dan", "-2"), ("stands bob", "0"), ("stands eve", "0"),
            ("most ann dan", "4"), ("most dan ann", "2"), ("most dan eve", "0"), ("most eve dan", "1"),
            ("high ann bob", "2"), ("high ann cat", "2"), ("high bob ann", "0"), ("high eve cat", "0"),
            ("low ann bob", "0"), ("low ann cat", "0"), ("low bob ann", "-2"), ("low cat ann", "-2"),
            ("low eve cat", "0"), ("bar ann dan", "ann"), ("bar dan eve", "ann bob cat dan"), ("bar eve dan", "eve"),
        ]:
            with self.subTest(question=question):
                self.say(desk, question, wanted)
                self.asked(desk, question)

    def test_a_bar_of_all_but_one(self):
        desk = desk_of(["join ann", "join bob", "join cat", "trust ann bob 9", "trust bob cat 1"])
        self.say(desk, "bar ann cat", "ann bob")
        self.say(desk, "bar ann bob", "ann")
        self.say(desk, "bar cat ann", "cat")
        self.say(desk, "most ann cat", "1")

    def test_all_questions_of_chance_books(self):
        below = 0
        for seed in range(25):
            chance = random.Random(seed)
            desk = desk_of(written(webs.some_book(chance, chance.randint(2, 6), chance.choice([3, 5, GREAT]))))
            for question in all_questions(desk.book.houses):
                self.asked(desk, question)
                below += desk.say(question).startswith("-")
        # Else numbers below 0 would hardly be told.
        self.assertGreater(below, 50)

    def test_a_bar_bars(self):
        for seed in range(20):
            chance = random.Random(seed)
            desk = desk_of(written(webs.some_book(chance, 5, 3)))
            for one, other in itertools.permutations(desk.book.houses, 2):
                bar = desk.say(f"bar {one} {other}").split(" ")
                webs.check_set(self, desk.book, bar)
                self.assertIn(one, bar)
                self.assertNotIn(other, bar)
                self.assertEqual(str(webs.way_out(desk.book, bar)), desk.say(f"most {one} {other}"))
                self.assertEqual(webs.way_out(desk.book, bar), webs.least_way_out(desk.book, one, other))

    def test_houses_whose_names_are_words(self):
        desk = desk_of(["join owes", "join room", "join houses", "trust owes room 4", "pay owes room 3"])
        self.say(desk, "owes owes room", "3")
        self.say(desk, "room owes room", "1")
        self.say(desk, "stands houses", "0")
        self.say(desk, "stands owes", "3")
        self.say(desk, "low room owes", "-3")
        self.say(desk, "houses", "houses owes room")

    def test_houses_that_the_book_does_not_have(self):
        for desk in [sample(), Desk()]:
            self.refused(desk, "stands zed", NoHouse)
            for word in OF_TWO:
                for names in ["ann zed", "zed ann", "zed yan", "zed zed"]:
                    self.refused(desk, f"{word} {names}", NoHouse)

    def test_one_house_for_both(self):
        for word, house in itertools.product(OF_TWO, sample().book.houses):
            self.refused(sample(), f"{word} {house} {house}", NoHouse)

    def test_a_house_that_has_left(self):
        desk = sample()
        self.asked(desk, "stands bob")
        desk.say("leave bob")
        self.refused(desk, "stands bob", NoHouse)
        self.refused(desk, "bar ann bob", NoHouse)


class NoRows(Checks):
    def test_texts(self):
        for row in rows.no_rows():
            with self.subTest(row=row):
                self.refused(sample(), row, NoRow)
                self.refused(Desk(), row, NoRow)

    def test_of_anything(self):
        anything = things.no_names() + things.names() + [
            ["houses"], ("houses",), {"houses": ""}, {"houses"}, b"houses", ["join", "fay"], ("join", "fay"),
            ["join fay"], read("join fay"), Desk(), Desk, no_houses(), [["join fay"]],
        ]
        for place, thing in enumerate(anything):
            with self.subTest(place=place):
                self.refused(sample(), thing, NoRow)
                self.refused(Desk(), thing, NoRow)

    def test_no_names_in_questions(self):
        desk = sample()
        for name in things.texts_no_names():
            with self.subTest(name=name):
                self.refused(desk, f"stands {name}", NoRow)
                for word in OF_TWO:
                    self.refused(desk, f"{word} ann {name}", NoRow)
                    self.refused(desk, f"{word} {name} ann", NoRow)
                    self.refused(desk, f"{word} {name} {name}", NoRow)
                    self.refused(desk, f"{word} {name} zed", NoRow)

    def check_spoiled(self, texts):
        desk = sample()
        counts = {}
        for text in texts:
            before = things.values(desk.book)
            found = things.refusal(desk.say, text)
            self.assertIs(found is NoRow, not rows.is_row(text) and not rows.is_question(text), text)
            if found is not None or rows.is_question(text):
                self.assertEqual(things.values(desk.book), before, text)
            if rows.is_question(text) and found is None:
                self.asked(desk, text)
            counts[found] = counts.get(found, 0) + 1
            if rows.is_row(text) and found is None:
                desk = sample()
        return counts

    def test_questions_spoiled_in_one_sign(self):
        counts = self.check_spoiled(text for row in rows.questions() for text in rows.spoiled_in_a_sign(row))
        self.assertGreater(min(counts[NoRow], counts[NoHouse], counts[None]), 10)

    def test_questions_spoiled_in_one_word(self):
        counts = self.check_spoiled(text for row in rows.questions() for text in rows.spoiled_in_a_word(row))
        self.assertGreater(min(counts[NoRow], counts[NoHouse], counts[None]), 10)

    def test_rows_spoiled_in_one_word(self):
        told = ["join fay", "leave ann", "trust ann bob 5", "pay ann dan 1", "turn 1 ann cat dan bob"]
        counts = self.check_spoiled(text for row in told for text in rows.spoiled_in_a_word(row))
        self.assertGreater(min(counts[NoRow], counts[None]), 10)


class TwoDesks(Checks):
    def test_they_have_nothing_to_do_with_one_another(self):
        first, second = Desk(), Desk()
        webs.check_own(self, [value for desk in [first, second]
                              for value in [desk.book.houses, desk.book.lines, desk.book.owed]])
        for row in ROWS:
            first.say(row)
        self.say(second, "houses", "")
        self.assertEqual(things.values(second.book), ([], {}, {}))
        self.say(second, "join ann", "done")
        self.say(first, "houses", "ann bob cat dan eve")
        self.refused(second, "owes ann bob", NoHouse)
        self.say(first, "owes ann bob", "2")
        self.assertEqual(things.values(Desk().book), ([], {}, {}))

    def test_two_desks_at_once_answer_as_each_alone(self):
        for seed in range(20):
            chance = random.Random(seed)
            pair, alone = [Desk(), Desk()], [Desk(), Desk()]
            heard, answers = [[], []], [[], []]
            for turn in range(40):
                place = chance.choice([0, 1])
                row = rows.chance_row(chance, pair[place].book)
                heard[place].append(row)
                answers[place].append(answer_or_refusal(pair[place], row))
            for place in [0, 1]:
                self.assertEqual([answer_or_refusal(alone[place], row) for row in heard[place]], answers[place])
                webs.check_same(self, alone[place].book, pair[place].book)


def answer_or_refusal(desk, row):
    try:
        return desk.say(row)
    except WayError as error:
        return type(error)


class TheSameEachTime(Checks):
    def test_for_equal_books_and_rows(self):
        for seed in range(25):
            chance = random.Random(seed)
            book = webs.some_book(chance, chance.randint(3, 6), 3)
            first, second = Desk(), Desk()
            for row in written(book):
                first.say(row)
            for row in rows_in_another_order(chance, book):
                second.say(row)
            webs.check_same(self, first.book, second.book)
            for turn in range(12):
                row = rows.chance_row(chance, first.book)
                wanted = things.refusal(run, first.book, [read(row)])
                if wanted is None:
                    self.say(second, row, first.say(row))
                webs.check_same(self, first.book, second.book)
                for question in chance.sample(all_questions(first.book.houses), 5):
                    self.say(second, question, first.say(question))


def rows_in_another_order(chance, book):
    """The rows of the book, the joins among themselves, the trusts and the pays each in a chance order."""
    told = written(book)
    for word in ["join", "trust", "pay"]:
        some = webs.shuffled(chance, [row for row in told if row.startswith(word + " ")])
        told = [row for row in told if not row.startswith(word + " ")] + some
    return told


class ElderBooks(Checks):
    def test_they_stay_as_they_were(self):
        for seed in range(20):
            chance = random.Random(seed)
            desk = Desk()
            elders = []
            for turn in range(40):
                elders.append((desk.book, things.values(desk.book)))
                things.refusal(desk.say, rows.chance_row(chance, desk.book))
            for book, before in elders:
                self.assertEqual(things.values(book), before)


if __name__ == "__main__":
    unittest.main()
