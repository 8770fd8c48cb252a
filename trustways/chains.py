"""Chains and rings: their rooms, amounts that are sent along chains, rings that are turned."""

from trustways.books import Book, is_house, owes, room
from trustways.errors import NoAmount, NoChain, NoRoom
from trustways.names import is_amount


def are_houses_once(book, thing, least):
    if not isinstance(thing, list) or len(thing) < least:
        return False
    # Asked first, since things that are no texts may not be hashed.
    if not all([is_house(book, part) for part in thing]):
        return False
    return len(set(thing)) == len(thing)


def steps_along(book, chain):
    if not are_houses_once(book, chain, 2):
        raise NoChain("this is no chain of the book")
    return list(zip(chain, chain[1:]))


def steps_round(book, ring):
    if not are_houses_once(book, ring, 3):
        raise NoChain("this is no ring of the book")
    return list(zip(ring, ring[1:] + ring[:1]))


def least_room(book, steps):
    return min([room(book, one, other) for one, other in steps])


def room_along(book, chain):
    return least_room(book, steps_along(book, chain))


def room_round(book, ring):
    return least_room(book, steps_round(book, ring))


def set_owed(owed, one, other, number):
    # Owed stands one way round alone, and never as 0.
    owed.pop((one, other), None)
    owed.pop((other, one), None)
    if number > 0:
        owed[(one, other)] = number
    if number < 0:
        owed[(other, one)] = 0 - number


def moved(book, steps, amount):
    if not is_amount(amount):
        raise NoAmount("this is no amount")
    if amount > least_room(book, steps):
        raise NoRoom("this is more than the room")
    owed = dict(book.owed)
    for one, other in steps:
        set_owed(owed, one, other, owes(book, one, other) + amount)
    return Book(book.houses, book.lines, owed)


def sent(book, chain, amount):
    return moved(book, steps_along(book, chain), amount)


def turned(book, ring, amount):
    return moved(book, steps_round(book, ring), amount)


def all_sent(book, ways):
    # A copy, so that without ways, too, the book told is the asker's own.
    behind = Book(book.houses, book.lines, book.owed)
    for chain, amount in ways:
        behind = sent(behind, chain, amount)
    return behind


def all_turned(book, turns):
    # A copy, so that without turns, too, the book told is the asker's own.
    behind = Book(book.houses, book.lines, book.owed)
    for ring, amount in turns:
        behind = turned(behind, ring, amount)
    return behind
