"""Promises 24 and 25, and 2, 3, 5 and 6 over them: all standings that a web of lines can come to."""

import itertools
import random
import unittest

import things
import webs
from trustways.books import joined, no_houses
from trustways.errors import TooMany
from trustways.tally import all_standings
from trustways.wishes import met

GREAT = webs.GREAT


def web(houses, lines):
    return webs.made(houses, lines, {})


def path(lines):
    """Houses in a row, each with a line to the next one."""
    houses = webs.HOUSES[:len(lines) + 1]
    return web(houses, {(houses[place], houses[place + 1]): line for place, line in enumerate(lines)})


def ring(lines):
    houses = webs.HOUSES[:len(lines)]
    return web(houses, {(houses[place - 1], houses[place]): line for place, line in enumerate(lines)})


def ties(book, one, other):
    return book.lines.get((one, other), 0) + book.lines.get((other, one), 0)


def has_ring(pairs):
    """Whether the pairs have a ring among them, each pair standing there once at most."""
    group = {house: house for pair in pairs for house in pair}
    for one, other in pairs:
        if group[one] == group[other]:
            return True
        old = group[one]
        for house in group:
            if group[house] == old:
                group[house] = group[other]
    return False


def choices(book):
    """How many choices without a ring there are among the ties of the book."""
    tied = [pair for pair in itertools.combinations(book.houses, 2) if ties(book, *pair) > 0]
    count = 0
    for some in webs.sets_of(tied):
        if not has_ring(some):
            product = 1
            for one, other in some:
                product = product * ties(book, one, other)
            count = count + product
    return count


def unbarred(book):
    """All wishes that no set of houses bars, out of all whose numbers the lines of each house alone let be."""
    spans = []
    for house in book.houses:
        others = [other for other in book.houses if other != house]
        spans.append(range(0 - webs.lines_from(book, others), webs.lines_from(book, [house]) + 1))
    sets = [(some, webs.lines_from(book, some)) for some in webs.sets_of(book.houses)]
    told = []
    for numbers in itertools.product(*spans):
        wish = dict(zip(book.houses, numbers))
        if sum(numbers) == 0 and all(sum(wish[house] for house in some) <= out for some, out in sets):
            told.append(wish)
    return told


def come_about(book):
    """All standings of the books with the same lines, rising."""
    rows = {tuple(webs.standings_by(book.houses, owed).values()) for owed in webs.debts_in_all_books(book)}
    return [dict(zip(book.houses, row)) for row in sorted(rows)]


def thin_web(chance, count):
    """A web of so many houses in which a few pairs have small lines, one way or both ways."""
    houses = webs.HOUSES[:count]
    lines = {}
    for one, other in itertools.permutations(houses, 2):
        if chance.random() < 1.3 / count:
            lines[(one, other)] = chance.choice([1, 1, 2, 3])
    return web(houses, lines)


class Checks(unittest.TestCase):
    def check_told(self, book):
        """That dicts of all houses are told, rising, each once, and nothing changed; they are told on."""
        before = things.values(book)
        told = all_standings(book)
        self.assertEqual(things.values(book), before)
        self.assertIs(type(told), list)
        rows = []
        for wish in told:
            self.assertIs(type(wish), dict)
            self.assertEqual(sorted(wish), book.houses)
            self.assertTrue(all(type(number) is int for number in wish.values()))
            rows.append([wish[house] for house in book.houses])
        self.assertEqual([row for row in rows if sum(row) != 0], [])
        self.assertTrue(all(first < second for first, second in zip(rows, rows[1:])))
        self.assertLessEqual(len(told), 300)
        webs.check_own(self, told + [told, book.lines, book.owed])
        return told

    def check_too_many(self, book):
        before = things.values(book)
        self.assertIs(things.refusal(all_standings, book), TooMany)
        self.assertEqual(things.values(book), before)


class Small(Checks):
    def test_the_book_without_houses(self):
        self.assertEqual(self.check_told(no_houses()), [{}])

    def test_a_lone_house(self):
        self.assertEqual(self.check_told(joined(no_houses(), "ann")), [{"ann": 0}])

    def test_houses_without_any_line(self):
        for count in range(2, 9):
            wanted = [{house: 0 for house in webs.HOUSES[:count]}]
            self.assertEqual(self.check_told(web(webs.HOUSES[:count], {})), wanted)

    def test_two_houses(self):
        book = web(["ann", "bob"], {("ann", "bob"): 2, ("bob", "ann"): 1})
        wanted = [{"ann": number, "bob": 0 - number} for number in [-1, 0, 1, 2]]
        self.assertEqual(self.check_told(book), wanted)

    def test_one_line_either_way(self):
        there, back = web(["ann", "bob"], {("ann", "bob"): 3}), web(["ann", "bob"], {("bob", "ann"): 3})
        self.assertEqual([wish["ann"] for wish in self.check_told(there)], [0, 1, 2, 3])
        self.assertEqual([wish["ann"] for wish in self.check_told(back)], [-3, -2, -1, 0])

    def test_a_chain_of_three(self):
        told = self.check_told(path([1, 1]))
        self.assertEqual([tuple(wish.values()) for wish in told], [(0, 0, 0), (0, 1, -1), (1, -1, 0), (1, 0, -1)])

    def test_a_ring_of_three(self):
        told = self.check_told(ring([1, 1, 1]))
        self.assertEqual([tuple(wish[house] for house in ["ann", "bob", "cat"]) for wish in told], [
            (-1, 0, 1), (-1, 1, 0), (0, -1, 1), (0, 0, 0), (0, 1, -1), (1, -1, 0), (1, 0, -1),
        ])

    def test_parts_that_have_no_line_between_them(self):
        book = web(["ann", "bob", "cat", "dan"], {("ann", "cat"): 1, ("dan", "bob"): 2})
        told = self.check_told(book)
        self.assertEqual([tuple(wish[house] for house in book.houses) for wish in told], [
            (0, -2, 0, 2), (0, -1, 0, 1), (0, 0, 0, 0), (1, -2, -1, 2), (1, -1, -1, 1), (1, 0, -1, 0),
        ])

    def test_what_is_owed_makes_no_difference(self):
        for chance, book in webs.countable_books(40):
            if choices(book) <= 300:
                told = self.check_told(book)
                self.assertEqual(self.check_told(webs.stirred(chance, book, 9)), told)
                self.assertEqual(self.check_told(web(book.houses, book.lines)), told)


class AllWishes(Checks):
    def test_just_those_that_come_about_as_many_as_choices_without_a_ring(self):
        counts = {True: 0, False: 0}
        for seed in range(200):
            chance = random.Random(seed)
            book = webs.some_book(chance, chance.choice([3, 4, 5]), chance.choice([1, 2, 3, 4]))
            if webs.count_of_books(book) > 8000:
                continue
            wanted = come_about(book)
            self.assertEqual(len(wanted), choices(book))
            counts[len(wanted) <= 300] += 1
            if len(wanted) > 300:
                self.check_too_many(book)
            else:
                self.assertEqual(self.check_told(book), wanted)
        # Else the webs would be too plain to tell anything of one of the two.
        self.assertGreater(min(counts.values()), 5)

    def test_just_those_that_no_set_bars(self):
        for seed in range(60):
            chance = random.Random(seed)
            book = webs.some_book(chance, chance.choice([2, 3, 4]), 2)
            if choices(book) <= 300:
                self.assertEqual(self.check_told(book), unbarred(book))

    def test_each_is_met_and_those_beside_it_just_where_they_are_told(self):
        for seed in range(12):
            chance = random.Random(seed)
            book = thin_web(chance, chance.choice([3, 4, 5]))
            if choices(book) > 300:
                continue
            told = self.check_told(book)
            for wish in chance.sample(told, min(len(told), 20)):
                self.assertIsNot(met(book, wish)[0], None)
                up, down = chance.sample(book.houses, 2)
                beside = {**wish, up: wish[up] + 1, down: wish[down] - 1}
                self.assertIs(met(book, beside)[0] is not None, beside in told)

    def test_as_many_as_choices_without_a_ring_in_webs_of_up_to_eight_houses(self):
        counts = {True: 0, False: 0}
        for seed in range(150):
            chance = random.Random(seed)
            book = thin_web(chance, chance.randint(2, 8))
            count = choices(book)
            counts[count <= 300] += 1
            if count > 300:
                self.check_too_many(book)
            else:
                self.assertEqual(len(self.check_told(book)), count)
        self.assertGreater(min(counts.values()), 20)


class ThreeHundred(Checks):
    def check_count(self, book, count):
        self.assertEqual(choices(book), count)
        if count > 300:
            self.check_too_many(book)
        else:
            self.assertEqual(len(self.check_told(book)), count)

    def test_two_houses(self):
        for there, back in [(299, 0), (0, 299), (150, 149), (1, 298)]:
            lines = {("ann", "bob"): there, ("bob", "ann"): back}
            self.check_count(web(["ann", "bob"], lines), 300)
            for pair in lines:
                self.check_count(web(["ann", "bob"], {**lines, pair: lines[pair] + 1}), 301)
        told = self.check_told(web(["ann", "bob"], {("ann", "bob"): 150, ("bob", "ann"): 149}))
        self.assertEqual(told, [{"ann": number, "bob": 0 - number} for number in range(-149, 151)])

    def test_chains(self):
        for lines in [[2, 3, 4, 4], [4, 4, 3, 2], [1, 1, 2, 4, 4], [299], [99, 2], [2, 99], [0, 0, 0, 0, 0, 0, 299]]:
            self.check_count(path(lines), 300)
        for lines in [[6, 42], [42, 6], [300], [0, 0, 0, 6, 0, 0, 42], [0, 0, 0, 0, 0, 0, 300], [6, 0, 0, 0, 0, 0, 42]]:
            self.check_count(path(lines), 301)

    def test_rings(self):
        for first, second in itertools.combinations_with_replacement(range(1, 30), 2):
            for third in range(second, 60):
                count = choices_of_three(first, second, third)
                if count in [300, 301]:
                    self.check_count(ring([first, second, third]), count)
                    self.check_count(ring([third, first, second]), count)

    def test_eight_houses(self):
        self.check_count(path([1] * 7), 128)
        self.check_count(ring([1] * 8), 255)
        self.check_count(path([3] + [1] * 6), 256)
        self.check_count(path([2] + [1] * 6), 192)
        self.check_count(path([1] * 6 + [4]), 320)

    def test_chance_webs_with_just_as_many(self):
        seen = {300: 0, 301: 0}
        for seed in range(3000):
            chance = random.Random(seed)
            book = thin_web(chance, chance.choice([3, 4, 5]))
            lines = dict(book.lines)
            if ("ann", "bob") not in lines or choices(book) > 280:
                continue
            # One more tie is as many more choices each time: the last one may land on either side.
            more = choices(web(book.houses, {**lines, ("ann", "bob"): lines[("ann", "bob")] + 1})) - choices(book)
            for wanted in seen:
                if (wanted - choices(book)) % more == 0:
                    line = lines[("ann", "bob")] + (wanted - choices(book)) // more
                    self.check_count(web(book.houses, {**lines, ("ann", "bob"): line}), wanted)
                    seen[wanted] += 1
            if min(seen.values()) >= 15:
                break
        self.assertGreaterEqual(min(seen.values()), 15)


def choices_of_three(first, second, third):
    return 1 + first + second + third + first * second + second * third + third * first


class GreatLines(Checks):
    def test_one_great_line(self):
        for line in [301, 10 ** 6, 10 ** 30, 10 ** 58, GREAT]:
            for one, other in itertools.permutations(webs.HOUSES, 2):
                self.check_too_many(web(webs.HOUSES, {(one, other): line}))

    def test_great_lines_everywhere(self):
        for count in range(2, 9):
            houses = webs.HOUSES[:count]
            lines = {pair: GREAT for pair in itertools.permutations(houses, 2)}
            self.check_too_many(web(houses, lines))
            self.check_too_many(webs.made(houses, lines, {("ann", "bob"): GREAT}))

    def test_great_lines_among_the_last_houses(self):
        self.check_too_many(web(webs.HOUSES, {("ann", "bob"): 1, ("gus", "hal"): GREAT, ("hal", "gus"): GREAT}))
        self.check_too_many(web(webs.HOUSES, {("fay", "hal"): GREAT, ("hal", "gus"): GREAT}))


class TheSameEachTime(Checks):
    def test_for_equal_books(self):
        for seed in range(30):
            book = thin_web(random.Random(seed), 5)
            if choices(book) <= 300:
                self.assertEqual(all_standings(book), all_standings(webs.again(book)))

    def test_what_is_told_is_the_askers_own(self):
        book = path([1, 2])
        first, second = all_standings(book), all_standings(book)
        for wish in first:
            wish.clear()
        first.clear()
        self.assertEqual(len(second), 6)
        self.assertEqual(second, all_standings(path([1, 2])))


if __name__ == "__main__":
    unittest.main()
