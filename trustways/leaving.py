"""Leaving: a house that is freed of all debts by turns, and a house that leaves the book."""

from trustways.books import Book, need_house, standing
from trustways.chains import all_turned
from trustways.errors import StillOwes, TooLow
from trustways.kin import turns_to
from trustways.wishes import met


def pairs_without(numbers, house):
    """The dict from pairs to numbers without the pairs in which the house stands."""
    told = {}
    for pair, number in numbers.items():
        if house not in pair:
            told[pair] = number
    return told


def without(book, house):
    """The book without the house, its lines, and what it owes and is owed."""
    houses = [other for other in book.houses if other != house]
    return Book(houses, pairs_without(book.lines, house), pairs_without(book.owed, house))


def freed(book, house):
    need_house(book, house)
    if standing(book, house) != 0:
        raise StillOwes("the standing of this house isn't 0")
    others = without(book, house)
    wish = {}
    for other in others.houses:
        wish[other] = standing(book, other)
    answer = met(others, wish)
    if answer[0] is None:
        return (None, answer[1])
    # The others owe one another alone there, so that this book is kin, and the house is free in it.
    return (turns_to(book, Book(book.houses, book.lines, answer[0].owed)), None)


def gone(book, house):
    turns = freed(book, house)[0]
    if turns is None:
        raise TooLow("no turns free this house")
    return (without(all_turned(book, turns), house), turns)
