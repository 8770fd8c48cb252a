"""Spreads: the greatest and the least that one house can owe another, and lines set anew."""

from trustways.books import Book, line_of, lined, need_pair, owes, room
from trustways.chains import all_turned
from trustways.errors import NoAmount, TooLow
from trustways.names import is_line
from trustways.payments import first_ways, most


def apart(book, one, other):
    """The book without the two lines between one and other, and without what they owe one another."""
    lines = dict(book.lines)
    owed = dict(book.owed)
    for pair in [(one, other), (other, one)]:
        lines.pop(pair, None)
        owed.pop(pair, None)
    return Book(book.houses, lines, owed)


def highest(book, one, other):
    need_pair(book, one, other)
    # A ring with the step from one to other is a chain from other to one that doesn't take the step back.
    around = most(apart(book, one, other), other, one)
    more = min(around[0], room(book, one, other))
    number = owes(book, one, other) + more
    bar = None if number == line_of(book, one, other) else around[2]
    return (number, first_ways(around[1], more), bar)


def lowest(book, one, other):
    # The least that one owes other is the greatest that other owes one, told the other way round.
    back = highest(book, other, one)
    return (0 - back[0], back[1], back[2])


def lined_anew(book, one, other, line):
    need_pair(book, one, other)
    if not is_line(line):
        raise NoAmount("this is no line")
    least = lowest(book, one, other)
    if line < least[0]:
        raise TooLow("one owes other more than this line, whatever rings are turned")
    turns = first_ways(least[1], max(0, owes(book, one, other) - line))
    return (lined(all_turned(book, turns), one, other, line), turns)
