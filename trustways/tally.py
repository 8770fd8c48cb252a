"""The tally: all wishes that can be met with the lines of a book."""

from trustways.errors import TooMany
from trustways.wishes import lines_out

GREATEST_COUNT = 300


def sets_of(houses):
    """All sets of the houses, each a list."""
    told = [[]]
    for house in houses:
        told = told + [some + [house] for some in told]
    return told


def sums_of(numbers):
    """What each set of the numbers comes to, in the order of sets_of."""
    told = [0]
    for number in numbers:
        told = told + [total + number for total in told]
    return told


def bounds(book, place):
    """For each set of the houses ahead of the place, with the house there: the lines into it and out of it."""
    told = []
    for ahead in sets_of(book.houses[:place]):
        some = ahead + [book.houses[place]]
        others = [house for house in book.houses if house not in some]
        told.append((lines_out(book, others), lines_out(book, some)))
    return told


def span(row, limits):
    """The least and the greatest number behind the row with which no set stands beyond its lines."""
    pairs = list(zip(sums_of(row), limits))
    least = max([0 - limit[0] - total for total, limit in pairs])
    greatest = min([limit[1] - total for total, limit in pairs])
    return (least, greatest)


def lengthened(rows, limits):
    """The rows, each with each number that can stand behind it, rising."""
    told = []
    for row in rows:
        ends = span(row, limits)
        # Each row leads to a wish at least, so that more rows are more wishes; asked ahead, since a span may be vast.
        if len(told) + ends[1] - ends[0] + 1 > GREATEST_COUNT:
            raise TooMany("more wishes than three hundred can be met")
        for number in range(ends[0], ends[1] + 1):
            told.append(row + [number])
    return told


def all_standings(book):
    rows = [[]]
    for place in range(len(book.houses)):
        rows = lengthened(rows, bounds(book, place))
    return [dict(zip(book.houses, row)) for row in rows]
