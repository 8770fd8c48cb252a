"""Roads: the shortest chains with room, what they reach, and the rooms out of some houses."""

from trustways.books import room


def ordered_houses(book, order):
    if order is None:
        return list(book.houses)
    # An order may hold names that are no houses of the book.
    return [name for name in order if name in book.houses]


def with_room_to(book, some, house):
    return [one for one in some if room(book, one, house) > 0]


def steps_from(book, starts):
    """A dict from all houses that are reached to the fewest steps from a start to them."""
    steps = {}
    latest = list(starts)
    count = 0
    while latest != []:
        for house in latest:
            steps[house] = count
        left = [house for house in book.houses if house not in steps]
        latest = [house for house in left if with_room_to(book, latest, house) != []]
        count = count + 1
    return steps


def road(book, starts, goals, order=None):
    steps = steps_from(book, starts)
    ends = [goal for goal in goals if goal in steps]
    if ends == []:
        return None
    # Those that are reached alone, each choice below then being the first in the order.
    houses = [house for house in ordered_houses(book, order) if house in steps]
    count = min([steps[goal] for goal in ends])
    nearest = [house for house in houses if house in ends and steps[house] == count]
    # Built from the goal back to the start, since the order chooses the last house first.
    chain = [nearest[0]]
    while count > 0:
        count = count - 1
        ahead = [house for house in houses if steps[house] == count]
        chain.insert(0, with_room_to(book, ahead, chain[0])[0])
    return chain


def reached(book, some):
    return sorted(steps_from(book, some))


def rooms_out(book, some):
    total = 0
    for one in some:
        for other in book.houses:
            if other not in some:
                total = total + room(book, one, other)
    return total
