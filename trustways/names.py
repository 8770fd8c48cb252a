"""What is a name, an amount and a line: True or False, of anything."""


LETTERS = "abcdefghijklmnopqrstuvwxyz"


def is_whole(thing):
    # Python counts True and False among its ints.
    return isinstance(thing, int) and not isinstance(thing, bool)


def is_name(thing):
    if not isinstance(thing, str):
        return False
    if len(thing) < 1 or len(thing) > 8:
        return False
    return all([letter in LETTERS for letter in thing])


def is_amount(thing):
    return is_whole(thing) and 1 <= thing and thing < 10 ** 60


def is_line(thing):
    return is_whole(thing) and 0 <= thing and thing < 10 ** 59
