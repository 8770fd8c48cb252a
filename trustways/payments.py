"""Payments: the most that a payer can pay a taker, and an amount that is paid."""

from trustways.books import need_pair
from trustways.chains import all_sent, room_along, sent
from trustways.errors import NoAmount, TooMuch
from trustways.names import is_amount
from trustways.roads import reached, road


def most(book, payer, taker, order=None):
    need_pair(book, payer, taker)
    ways = []
    behind = book
    chain = road(behind, [payer], [taker], order)
    while chain is not None:
        amount = room_along(behind, chain)
        ways.append((chain, amount))
        behind = sent(behind, chain, amount)
        chain = road(behind, [payer], [taker], order)
    # No room leads out of what is still reached: all that there was has been sent.
    return (sum([way[1] for way in ways]), ways, reached(behind, [payer]))


def first_ways(ways, amount):
    """The ways (or turns) up to the amount, the last of them cut to what is still left of it."""
    told = []
    rest = amount
    for chain, carried in ways:
        if rest == 0:
            break
        part = min(carried, rest)
        told.append((chain, part))
        rest = rest - part
    return told


def paid(book, payer, taker, amount, order=None):
    need_pair(book, payer, taker)
    if not is_amount(amount):
        raise NoAmount("this is no amount")
    greatest = most(book, payer, taker, order)
    if amount > greatest[0]:
        raise TooMuch("this is more than the most")
    # A payment takes the roads that the most takes, only that it may end sooner.
    ways = first_ways(greatest[1], amount)
    return (all_sent(book, ways), ways)
