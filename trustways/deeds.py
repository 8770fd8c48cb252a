"""Deeds: objects that are done to a book, each telling the book behind it, and their rows of text."""

from trustways.books import Book, joined
from trustways.chains import turned
from trustways.leaving import gone
from trustways.payments import paid
from trustways.spreads import lined_anew


def row_of(words):
    return " ".join([str(word) for word in words])


class Deed:
    def acted(self, book, order=None):
        # A copy, so that the book told is the asker's own.
        return Book(book.houses, book.lines, book.owed)

    def row(self):
        return ""


class Join(Deed):
    def __init__(self, house):
        self.house = house

    def acted(self, book, order=None):
        return joined(book, self.house)

    def row(self):
        return row_of(["join", self.house])


class Trust(Deed):
    def __init__(self, one, other, line):
        self.one = one
        self.other = other
        self.line = line

    def acted(self, book, order=None):
        return lined_anew(book, self.one, self.other, self.line)[0]

    def row(self):
        return row_of(["trust", self.one, self.other, self.line])


class Pay(Deed):
    def __init__(self, payer, taker, amount):
        self.payer = payer
        self.taker = taker
        self.amount = amount

    def acted(self, book, order=None):
        return paid(book, self.payer, self.taker, self.amount, order)[0]

    def row(self):
        return row_of(["pay", self.payer, self.taker, self.amount])


class Turn(Deed):
    def __init__(self, ring, amount):
        # A copy of a list, since the asker may change it later; of other things each is no ring and stays none.
        self.ring = list(ring) if isinstance(ring, list) else ring
        self.amount = amount

    def acted(self, book, order=None):
        return turned(book, self.ring, self.amount)

    def row(self):
        return row_of(["turn", self.amount] + self.ring)


class Leave(Deed):
    def __init__(self, house):
        self.house = house

    def acted(self, book, order=None):
        return gone(book, self.house)[0]

    def row(self):
        return row_of(["leave", self.house])
