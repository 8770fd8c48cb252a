"""Histories: deeds that are done one behind the other, and which of them were done."""

from trustways.books import Book
from trustways.errors import NoRoom, StillOwes, TooLow, TooMuch


def tried(book, deed, order):
    """The book behind the deed; None where it is refused as a history lets it be."""
    try:
        return deed.acted(book, order)
    except (TooMuch, TooLow, StillOwes, NoRoom):
        return None


def run(book, deeds, order=None):
    # A copy, so that where nothing is done, too, the book told is the asker's own.
    behind = Book(book.houses, book.lines, book.owed)
    answers = []
    for deed in deeds:
        found = tried(behind, deed, order)
        answers.append(found is not None)
        if found is not None:
            behind = found
    return (behind, answers)
