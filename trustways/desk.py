"""A desk: it has a book, is told rows, does the deeds and answers the questions."""

from trustways.books import no_houses, owes, room, standing
from trustways.histories import run
from trustways.names import is_name
from trustways.payments import most
from trustways.spreads import highest, lowest
from trustways.texts import read, words_of

OF_TWO_HOUSES = ("owes", "room", "most", "high", "low", "bar")


def is_question(words):
    if not all([is_name(word) for word in words]):
        return False
    if words[0] in OF_TWO_HOUSES:
        return len(words) == 3
    if words[0] == "stands":
        return len(words) == 2
    return words == ["houses"]


def asked_of_two(book, word, one, other):
    """The number that the word asks of the two houses."""
    if word == "owes":
        return owes(book, one, other)
    if word == "room":
        return room(book, one, other)
    if word == "most":
        return most(book, one, other)[0]
    if word == "high":
        return highest(book, one, other)[0]
    return lowest(book, one, other)[0]


def answer(book, words):
    """The answer to a question."""
    if words[0] == "houses":
        return " ".join(book.houses)
    if words[0] == "stands":
        return str(standing(book, words[1]))
    if words[0] == "bar":
        return " ".join(most(book, words[1], words[2])[2])
    return str(asked_of_two(book, words[0], words[1], words[2]))


class Desk:
    def __init__(self):
        self.book = no_houses()

    def say(self, row):
        words = words_of(row)
        if is_question(words):
            return answer(self.book, words)
        told = run(self.book, [read(row)])
        if not told[1][0]:
            return "no"
        self.book = told[0]
        return "done"
