"""Books: houses, the lines up to which they trust one another, and what they owe."""

from trustways.errors import NoAmount, NoHouse, TooLow, Twice
from trustways.names import is_line, is_name


class Book:
    def __init__(self, houses, lines, owed):
        # Copies, so that no two books and no asker share a list or a dict.
        self.houses = list(houses)
        self.lines = dict(lines)
        self.owed = dict(owed)


def no_houses():
    return Book([], {}, {})


def is_house(book, thing):
    # Only a text is compared with the houses: other things may tell anything of ==.
    return isinstance(thing, str) and thing in book.houses


def need_house(book, house):
    if not is_house(book, house):
        raise NoHouse("this is no house of the book")


def need_pair(book, one, other):
    need_house(book, one)
    need_house(book, other)
    if one == other:
        raise NoHouse("two unlike houses are needed")


def joined(book, house):
    if not is_name(house):
        raise NoHouse("this is no name")
    if house in book.houses:
        raise Twice("this house is in the book")
    return Book(sorted(book.houses + [house]), book.lines, book.owed)


def lined(book, one, other, line):
    need_pair(book, one, other)
    if not is_line(line):
        raise NoAmount("this is no line")
    if owes(book, one, other) > line:
        raise TooLow("more is owed than this line")
    lines = dict(book.lines)
    # A line of 0 doesn't stand in a book.
    if line == 0:
        lines.pop((one, other), None)
    else:
        lines[(one, other)] = line
    return Book(book.houses, lines, book.owed)


def owes(book, one, other):
    need_pair(book, one, other)
    if (one, other) in book.owed:
        return book.owed[(one, other)]
    return 0 - book.owed.get((other, one), 0)


def line_of(book, one, other):
    need_pair(book, one, other)
    return book.lines.get((one, other), 0)


def room(book, one, other):
    return line_of(book, one, other) - owes(book, one, other)


def standing(book, house):
    need_house(book, house)
    return sum([owes(book, house, other) for other in book.houses if other != house])


def standings(book):
    told = {}
    for house in book.houses:
        told[house] = standing(book, house)
    return told
