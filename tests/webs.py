"""Books for the tests, made by the functions alone, and plain reckonings to hold the program against."""

import itertools
import random

import things
from trustways.books import Book, joined, lined, no_houses
from trustways.chains import all_turned, sent, turned
from trustways.names import is_amount, is_line, is_name

GREAT = 10 ** 59 - 1
HOUSES = ["ann", "bob", "cat", "dan", "eve", "fay", "gus", "hal"]


def made(houses, lines, owed):
    """The book with these values, each debt sent along a chain of two."""
    book = no_houses()
    for house in houses:
        book = joined(book, house)
    for (one, other), line in lines.items():
        book = lined(book, one, other, line)
    for (one, other), amount in owed.items():
        book = sent(book, [one, other], amount)
    return book


def shuffled(chance, things_to_mix):
    return chance.sample(list(things_to_mix), len(things_to_mix))


def walk(chance, book, least):
    """A chance chain of so many houses or more with room all along; None where it came to no such one."""
    if len(book.houses) < least:
        return None
    chain = [chance.choice(book.houses)]
    length = chance.randint(least, len(book.houses))
    while len(chain) < length:
        ways_on = [house for house in book.houses if house not in chain and free_room(book, chain[-1], house) > 0]
        if not ways_on:
            break
        chain.append(chance.choice(ways_on))
    return chain if len(chain) >= least else None


def chance_amount(chance, free):
    return chance.choice([1, free, chance.randint(1, free)])


def stirred(chance, book, count):
    """The book behind some amounts that are sent along chance chains."""
    for turn in range(count):
        chain = walk(chance, book, 2)
        if chain is not None:
            book = sent(book, chain, chance_amount(chance, chain_room(book, chain)))
    return book


def rolled(chance, book, count):
    """The book behind some turns of chance rings, a kin one."""
    for turn in range(count):
        ring = walk(chance, book, 3)
        if ring is not None and ring_room(book, ring) > 0:
            book = turned(book, ring, chance_amount(chance, ring_room(book, ring)))
    return book


def some_book(chance, count, high=4):
    """A book of so many houses, with lines up to high between some of the pairs, and some debts."""
    book = no_houses()
    for house in shuffled(chance, HOUSES[:count]):
        book = joined(book, house)
    density = chance.choice([0.2, 0.3, 0.5, 0.8])
    for one, other in itertools.permutations(book.houses, 2):
        if chance.random() < density:
            book = lined(book, one, other, chance.randint(1, high))
    return stirred(chance, book, 2 * count)


def some_order(chance, book):
    """An order of the book's houses, with some strangers among them at times."""
    strangers = ["a", "cats", "zed", "moe", "zzzzzzzz"][:chance.choice([0, 0, 3, 5])]
    return shuffled(chance, book.houses + strangers)


def again(book):
    """An equal book whose values came about in another order."""
    lines = dict(reversed(list(book.lines.items())))
    owed = dict(reversed(list(book.owed.items())))
    return made(list(reversed(book.houses)), lines, owed)


def debt(book, one, other):
    return book.owed.get((one, other), 0) - book.owed.get((other, one), 0)


def debts(book):
    return {(one, other): debt(book, one, other) for one, other in itertools.permutations(book.houses, 2)}


def free_room(book, one, other):
    return book.lines.get((one, other), 0) - debt(book, one, other)


def chain_steps(chain):
    return [(chain[place], chain[place + 1]) for place in range(len(chain) - 1)]


def ring_steps(ring):
    return [(ring[place - 1], ring[place]) for place in range(len(ring))]


def chain_room(book, chain):
    return min(free_room(book, one, other) for one, other in chain_steps(chain))


def ring_room(book, ring):
    return min(free_room(book, one, other) for one, other in ring_steps(ring))


def rows_of(houses, least):
    """All lists of at least so many of the houses, each once."""
    for length in range(least, len(houses) + 1):
        for row in itertools.permutations(houses, length):
            yield list(row)


def sets_of(houses):
    for count in range(len(houses) + 1):
        for some in itertools.combinations(houses, count):
            yield list(some)


def first_road(book, starts, goals, order):
    """The road that the order brings first, out of all chains."""
    for length in range(2, len(book.houses) + 1):
        rows = [list(row) for row in itertools.permutations(book.houses, length)]
        ended = [row for row in rows if row[0] in starts and row[-1] in goals]
        roads = [row for row in ended if chain_room(book, row) >= 1]
        if roads:
            return min(roads, key=lambda chain: [order.index(house) for house in reversed(chain)])
    return None


def way_out(book, some):
    outside = [house for house in book.houses if house not in some]
    return sum(free_room(book, one, other) for one in some for other in outside)


def least_way_out(book, payer, taker):
    """The least of the rooms out of all sets with the payer and without the taker."""
    others = [house for house in book.houses if house not in (payer, taker)]
    return min(way_out(book, [payer] + some) for some in sets_of(others))


def standing_of(book, house):
    return sum(debt(book, house, other) for other in book.houses if other != house)


def standings_of(book):
    return {house: standing_of(book, house) for house in book.houses}


def lines_from(book, some):
    """The lines out of some houses, reckoned from the lines that stand in the book."""
    return sum(line for (one, other), line in book.lines.items() if one in some and other not in some)


def debts_in_all_books(book):
    """What is owed in each book with the same houses and lines, a dict from pairs, each pair one way round."""
    pairs = list(itertools.combinations(book.houses, 2))
    spans = []
    for one, other in pairs:
        spans.append(range(0 - book.lines.get((other, one), 0), book.lines.get((one, other), 0) + 1))
    for numbers in itertools.product(*spans):
        yield dict(zip(pairs, numbers))


def count_of_books(book):
    """How many books there are with the same houses and lines."""
    count = 1
    for one, other in itertools.combinations(book.houses, 2):
        count = count * (book.lines.get((one, other), 0) + book.lines.get((other, one), 0) + 1)
    return count


def standings_by(houses, owed):
    told = {house: 0 for house in houses}
    for (one, other), number in owed.items():
        told[one] += number
        told[other] -= number
    return told


def debts_in_kin_books(book):
    wanted = standings_of(book)
    return [owed for owed in debts_in_all_books(book) if standings_by(book.houses, owed) == wanted]


def countable_books(count):
    """Small books, each of them with few enough others of the same lines that all of these can be walked."""
    for seed in range(count):
        chance = random.Random(seed)
        book = some_book(chance, chance.choice([2, 3, 3, 4, 4, 5]), chance.choice([1, 2, 3]))
        if count_of_books(book) <= 2000:
            yield chance, book


def check_turns(case, book, turns):
    """That these are turns of the book; told is the book behind them."""
    case.assertIs(type(turns), list)
    for turn in turns:
        case.assertIs(type(turn), tuple)
        case.assertEqual([type(part) for part in turn], [list, int])
    behind = all_turned(book, turns)
    check_book(case, behind)
    case.assertEqual((behind.houses, behind.lines), (book.houses, book.lines))
    case.assertEqual(standings_of(behind), standings_of(book))
    return behind


def check_set(case, book, some):
    """That these are houses of the book, sorted, each once."""
    case.assertIs(type(some), list)
    case.assertEqual(some, sorted(set(some)))
    case.assertTrue(all(house in book.houses for house in some))


def check_own(case, lists):
    """That no two of the lists and dicts are one."""
    case.assertEqual(len({id(each) for each in lists}), len(lists))


def check_pairs(case, book, pairs):
    for pair in pairs:
        case.assertIs(type(pair), tuple)
        case.assertEqual(len(pair), 2)
        case.assertNotEqual(pair[0], pair[1])
        case.assertIn(pair[0], book.houses)
        case.assertIn(pair[1], book.houses)


def check_book(case, book):
    """That it is a book as promise 5 tells, and that its standings come to 0."""
    case.assertIs(type(book), Book)
    case.assertEqual([type(value) for value in (book.houses, book.lines, book.owed)], [list, dict, dict])
    case.assertEqual(book.houses, sorted(set(book.houses)))
    case.assertTrue(all(is_name(house) for house in book.houses))
    check_pairs(case, book, list(book.lines) + list(book.owed))
    case.assertTrue(all(is_line(line) and line != 0 for line in book.lines.values()))
    for (one, other), amount in book.owed.items():
        case.assertTrue(is_amount(amount))
        case.assertNotIn((other, one), book.owed)
        case.assertLessEqual(amount, book.lines.get((one, other), 0))
    case.assertEqual(sum(standings_of(book).values()), 0)


def check_same(case, book, wanted):
    case.assertEqual(things.values(book), things.values(wanted))
