"""Wishes: standings that are wished for, met by a book or barred by a set of houses."""

from trustways.books import Book, is_house, line_of, standing
from trustways.chains import room_along, sent
from trustways.errors import NoWish
from trustways.names import is_whole
from trustways.roads import reached, road


def lines_out(book, some):
    total = 0
    for one in some:
        for other in book.houses:
            if other not in some:
                total = total + line_of(book, one, other)
    return total


def is_wish(book, thing):
    # As many keys as houses: where each key is a house, no house is left out.
    if not isinstance(thing, dict) or len(thing) != len(book.houses):
        return False
    if not all([is_house(book, key) for key in thing.keys()]):
        return False
    if not all([is_whole(number) for number in thing.values()]):
        return False
    return sum(thing.values()) == 0


def still_wished(book, wish, house):
    """How much higher the house shall stand than it does; below 0 where it shall stand lower."""
    return wish[house] - standing(book, house)


def houses_below(book, wish):
    return [house for house in book.houses if still_wished(book, wish, house) > 0]


def houses_above(book, wish):
    return [house for house in book.houses if still_wished(book, wish, house) < 0]


def road_towards(book, wish):
    return road(book, houses_below(book, wish), houses_above(book, wish))


def sent_towards(book, wish, chain):
    # No further than to the wished standings of both ends: whoever stands right stays so.
    first = still_wished(book, wish, chain[0])
    last = 0 - still_wished(book, wish, chain[-1])
    return sent(book, chain, min(room_along(book, chain), first, last))


def met(book, wish):
    if not is_wish(book, wish):
        raise NoWish("this is no wish for the book")
    # A copy, so that where all stand right already, too, the book told is the asker's own.
    found = Book(book.houses, book.lines, book.owed)
    chain = road_towards(found, wish)
    while chain is not None:
        found = sent_towards(found, wish, chain)
        chain = road_towards(found, wish)
    below = houses_below(found, wish)
    if below == []:
        return (found, None)
    # What is reached has no room out: its standings come to the lines out, and more is wished of it.
    return (None, reached(found, below))
