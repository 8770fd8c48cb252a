"""Rows of text: deeds that are read, books that are written as rows, and rows that come up to a book."""

from trustways.books import no_houses
from trustways.deeds import Join, Leave, Pay, Trust, Turn
from trustways.errors import NoRow
from trustways.names import is_amount, is_line, is_name

FIGURES = "0123456789"


def words_of(row):
    if not isinstance(row, str):
        raise NoRow("this is no text")
    # At each single blank: where there is one too many, a word without signs stands, which is none.
    return row.split(" ")


def number_of(word):
    """The number that is written so; None where it is no number of sixty figures at most."""
    # Asked ahead, since Python may refuse to read very long numbers.
    if len(word) < 1 or len(word) > 60:
        return None
    if not all([sign in FIGURES for sign in word]):
        return None
    if word[0] == "0" and len(word) > 1:
        return None
    return int(word)


def are_names_once(words):
    return all([is_name(word) for word in words]) and len(set(words)) == len(words)


def need_row(is_row):
    if not is_row:
        raise NoRow("this is no row of a deed")


def read_of_one(words):
    """The deed of a row with one house."""
    need_row(len(words) == 2 and is_name(words[1]))
    if words[0] == "join":
        return Join(words[1])
    return Leave(words[1])


def read_of_two(words):
    """The deed of a row with two houses."""
    need_row(len(words) == 4 and are_names_once(words[1:3]))
    number = number_of(words[3])
    if words[0] == "trust":
        need_row(is_line(number))
        return Trust(words[1], words[2], number)
    need_row(is_amount(number))
    return Pay(words[1], words[2], number)


def read_of_ring(words):
    """The deed of a row with the houses of a ring."""
    need_row(len(words) >= 5 and len(words) <= 10 and are_names_once(words[2:]))
    amount = number_of(words[1])
    need_row(is_amount(amount))
    return Turn(words[2:], amount)


def read(row):
    words = words_of(row)
    if words[0] in ["join", "leave"]:
        return read_of_one(words)
    if words[0] in ["trust", "pay"]:
        return read_of_two(words)
    need_row(words[0] == "turn")
    return read_of_ring(words)


def written(book):
    joins = [Join(house).row() for house in book.houses]
    trusts = [Trust(pair[0], pair[1], book.lines[pair]).row() for pair in sorted(book.lines)]
    # Each of these goes straight from the one to the other again, since the two owe one another nothing ahead of it.
    pays = [Pay(pair[0], pair[1], book.owed[pair]).row() for pair in sorted(book.owed)]
    return joins + trusts + pays


def come_up(rows):
    book = no_houses()
    for row in rows:
        book = read(row).acted(book)
    return book
