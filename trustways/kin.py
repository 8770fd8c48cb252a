"""Kin books: the same houses, lines and standings, and the turns from one to the other."""

from trustways.books import owes, standings
from trustways.chains import steps_round, turned


def are_kin(book, other):
    if book.houses != other.houses or book.lines != other.lines:
        return False
    return standings(book) == standings(other)


def lack(book, goal, one, two):
    """How much more one owes two in the goal than in the book."""
    return owes(goal, one, two) - owes(book, one, two)


def lacking_to(book, goal, one):
    """The houses that one owes less in the book than in the goal."""
    return [two for two in book.houses if two != one and lack(book, goal, one, two) > 0]


def lacking_ring(book, goal):
    """A ring at each of whose steps less is owed in the book than in the goal; None where nothing lacks."""
    starts = [house for house in book.houses if lacking_to(book, goal, house) != []]
    if starts == []:
        return None
    walked = []
    house = starts[0]
    # The walk never ends at a house: standings being alike, where less is owed to it, it owes less too.
    while house not in walked:
        walked.append(house)
        house = lacking_to(book, goal, house)[0]
    return walked[walked.index(house):]


def turns_to(book, other):
    if not are_kin(book, other):
        return None
    turns = []
    behind = book
    ring = lacking_ring(behind, other)
    while ring is not None:
        # The least lack: no step goes too far, and one of them at least is right for good.
        amount = min([lack(behind, other, one, two) for one, two in steps_round(behind, ring)])
        turns.append((ring, amount))
        behind = turned(behind, ring, amount)
        ring = lacking_ring(behind, other)
    return turns
