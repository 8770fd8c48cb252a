"""What several test files need: things of every kind, and looks at a book."""

import copy


class Agreeing:
    """Tells of itself that it is equal to whatever it is compared with."""

    def __eq__(self, other):
        return True

    def __hash__(self):
        return 0


class Failing:
    """Can't be compared, hashed or shown."""

    def __eq__(self, other):
        raise RuntimeError("compared")

    __lt__ = __le__ = __gt__ = __ge__ = __eq__
    __hash__ = None

    def __repr__(self):
        raise RuntimeError("shown")


def no_texts_no_numbers():
    return [
        None, True, False,
        1.0, 0.5, float("nan"), float("inf"), 1j, b"a", b"",
        [], ["a"], ["a", "b"], [1], (), ("a",), ("a", "b"), (1,),
        {}, {"a": 1}, {"a": "b"}, {1: 1}, set(), {"a"}, {1}, range(1, 3),
        object(), len, str, int, Agreeing(), Failing(),
    ]


def whole_numbers():
    return [
        0, 1, 2, 7, 97, -1, -2, 10 ** 59 - 1, 10 ** 59, 10 ** 60 - 1, 10 ** 60,
        1 - 10 ** 59, 0 - 10 ** 59, 1 - 10 ** 60, 10 ** 61, 10 ** 5000, 0 - 10 ** 5000,
    ]


def names():
    return ["a", "z", "m", "ab", "za", "house", "abcdefg", "abcdefgh", "zzzzzzzz", "aaaaaaaa"]


def texts_no_names():
    return [
        "", " ", "\n", "\t", "abcdefghi", "zzzzzzzzz", "a" * 300, "A", "Z", "aB", "Ab", "aBc",
        "a1", "1", "0", "1a", "a_b", "_", "a-b", "-", "a.", "a b", " a", "a ", "a\n", "\na", "a\t",
        "abcdefg ", "abcdefgh\n", "a\nb", "`", "{", "@", "[", "~", "a`", "a{", "a,b", "None", "True",
        "\u00e4", "\u00df", "\u0430", "\uff41", "a\u0301", "\x00", "a\x00",
    ]


def no_names():
    return texts_no_names() + whole_numbers() + no_texts_no_numbers()


def no_amounts():
    outside = [n for n in whole_numbers() if n < 1 or n > 10 ** 60 - 1]
    return outside + names() + texts_no_names() + no_texts_no_numbers()


def no_lines():
    outside = [n for n in whole_numbers() if n < 0 or n > 10 ** 59 - 1]
    return outside + names() + texts_no_names() + no_texts_no_numbers()


def values(book):
    """A deep copy of a book's three values, to be compared with later."""
    return copy.deepcopy((book.houses, book.lines, book.owed))


def refusal(call, *args):
    """The very class of the error that the call raises; None where it raises none."""
    try:
        call(*args)
    except Exception as error:
        return type(error)
    return None
