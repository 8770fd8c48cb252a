"""Rows of text for the tests: a plain reading to hold the program against, rows that are none, and spoiled ones."""

import re

import webs
from trustways.deeds import Deed, Join, Leave, Pay, Trust, Turn

NAME = "[a-z]{1,8}"
LINE = "(?:0|[1-9][0-9]{0,58})"
AMOUNT = "[1-9][0-9]{0,59}"
ROW = re.compile(
    f"join {NAME}|leave {NAME}|trust {NAME} {NAME} {LINE}|pay {NAME} {NAME} {AMOUNT}|turn {AMOUNT}(?: {NAME}){{3,8}}")
QUESTION = re.compile(f"houses|stands {NAME}|(?:owes|room|most|high|low|bar) {NAME} {NAME}")

GREATEST_LINE = "9" * 59
GREATEST_AMOUNT = "9" * 60
NINE_NAMES = ["a", "b", "c", "d", "e", "f", "g", "h", "i"]


def is_row(text):
    """Whether the text is the row of a deed."""
    if ROW.fullmatch(text) is None:
        return False
    words = text.split(" ")
    names = words[2:] if words[0] == "turn" else words[1:3]
    return len(set(names)) == len(names)


def is_question(text):
    return QUESTION.fullmatch(text) is not None


def plain_reading(text):
    """The class and the things of the deed of the row."""
    words = text.split(" ")
    if words[0] in ["join", "leave"]:
        return ({"join": Join, "leave": Leave}[words[0]], [words[1]])
    if words[0] == "turn":
        return (Turn, [words[2:], int(words[1])])
    return ({"trust": Trust, "pay": Pay}[words[0]], [words[1], words[2], int(words[3])])


def told_by(deed):
    """The very class and the things of a deed."""
    names = {
        Deed: [], Join: ["house"], Leave: ["house"], Trust: ["one", "other", "line"], Pay: ["payer", "taker", "amount"],
        Turn: ["ring", "amount"],
    }[type(deed)]
    return (type(deed), [getattr(deed, name) for name in names])


def rows():
    """Rows of every kind, with the least and the greatest of all that they hold."""
    return [
        "join a", "join abcdefgh", "join ann", "leave z", "leave zzzzzzzz", "leave ann",
        "trust ann bob 0", "trust ann bob 1", "trust a b 10", "trust zzzzzzzz abcdefgh " + GREATEST_LINE,
        "trust bob ann 1" + "0" * 58, "pay ann bob 1", "pay b a 909", "pay abcdefgh zzzzzzzz " + GREATEST_AMOUNT,
        "pay ann bob 1" + "0" * 59, "turn 1 ann bob cat", "turn 20 c b a", "turn 7 dan cat bob ann",
        "turn " + GREATEST_AMOUNT + " " + " ".join(webs.HOUSES), "turn 1 " + " ".join(NINE_NAMES[:8]),
        "join join", "leave leave", "join turn", "leave houses", "trust trust pay 3", "trust one other 4",
        "pay pay turn 1", "turn 5 turn join pay", "turn 8 join trust pay turn leave owes room stands", "join bar",
        "leave join",
    ]


def questions():
    return [
        "houses", "stands ann", "stands a", "stands zzzzzzzz", "owes ann bob", "owes abcdefgh z", "room a b",
        "room bob ann", "most ann cat", "high cat ann", "low ann bob", "bar bob cat", "owes owes room",
        "stands stands", "bar houses bar", "low ann ann", "stands houses", "most most high",
    ]


def no_rows():
    """Texts that are no row of a deed and no question, each for a reason of its own."""
    deeds = [
        "join", "join ", "join  ann", "join ann bob", "join 5", "join Ann", "join a1", "join abcdefghi", "JOIN ann",
        "Join ann", "joins ann", "ann", "ann join", "leave", "leave ", "leave ann bob", "leave abcdefghi", "leave -",
        "leave ann 1", "join ann 1", "joinann", "join,ann", "join\tann", "join\nann", "join ann\n", "\njoin ann",
        " join ann", "join ann ", "\tjoin ann", "join ann\t", "join a-b", "join a_b", "join a.", "do ann",
        "trust ann bob", "trust ann bob ", "trust ann 5", "trust ann bob 5 5", "trust ann bob cat 5", "trust 5 ann bob",
        "trust ann ann 5", "trust ann ann 0", "trust ann bob five", "trust ann bob -1", "trust ann bob +1",
        "trust ann bob -0", "trust ann bob 00", "trust ann bob 01", "trust ann bob 007", "trust ann bob 1.0",
        "trust ann bob 1_0", "trust ann bob 1e5", "trust ann bob 0x1", "trust ann bob 1" + "0" * 59,
        "trust ann bob 0" + GREATEST_LINE, "trust ann bob " + "9" * 60, "trust ann bob 10 ", "trust ann bob 1\t",
        "trust ann bob 1\n", "trust  ann bob 1", "trust ann  bob 1", "trust ann bob  1", "trust abcdefghi bob 1",
        "trust ann abcdefghi 1", "trust Ann bob 1", "trust ann Bob 1", "trust  bob 1", "trust ann bob",
        "pay ann bob 0", "pay ann bob", "pay ann bob ", "pay ann bob 00", "pay ann bob 01", "pay ann bob 010",
        "pay ann bob -1", "pay ann bob +1", "pay ann bob 1" + "0" * 60, "pay ann bob 0" + GREATEST_AMOUNT,
        "pay ann ann 1", "pay ann bob 1 1", "pay 1 ann bob", "pay ann 1", "pay ann bob cat 1", "pay ann bob one",
        "pay ann bob " + "9" * 61, "pay ann bob " + "9" * 5000, "pay ann bob  1", "pay ann bob 1 ", "pay  ann bob 1",
        "turn", "turn 1", "turn 1 ann", "turn 1 ann bob", "turn ann bob cat", "turn ann bob cat 1",
        "turn 1 ann bob ann", "turn 1 ann ann bob", "turn 1 ann bob bob", "turn 0 ann bob cat",
        "turn 01 ann bob cat", "turn -1 ann bob cat", "turn 1 1 ann bob cat", "turn 1" + "0" * 60 + " ann bob cat",
        "turn 1 " + " ".join(NINE_NAMES), "turn 1 " + " ".join(NINE_NAMES + ["j"]),
        "turn 1 a b c d e f g a", "turn 1 ann bob Cat", "turn 1 ann bob abcdefghi", "turn 1 ann bob cat ",
        "turn 1 ann bob  cat", "turn  1 ann bob cat", "turn 1 ann bob cat 1", "turn 1,ann bob cat",
        "turn one ann bob cat", "turn " + "9" * 5000 + " ann bob cat", "turn 1 ann bob ", "turn 1  ann bob",
        "turn 1\tann bob cat dan",
    ]
    return deeds + other_texts()


def other_texts():
    return [
        "", " ", "  ", "\n", "\t", "0", "1", "-1", "done", "no", "None", "True", "houses ", " houses", "houses ann",
        "Houses", "house", "houses houses", "houses\n", "houses\t", "stands", "stands ", "stands ann bob", "stands Ann",
        "stands abcdefghi", "stands 1", "stands  ann", "stands ann ", "stand ann", "owes", "owes ann", "owes ann ",
        "owes ann bob cat", "owes ann bob 1", "owes Ann bob", "owes ann bob ", "owes  ann bob", "owes ann  bob",
        "owes ann\tbob", "owes ann bob\n", "owes ann abcdefghi", "owe ann bob", "room ann", "room ann bob cat",
        "room ann Bob", "most ann", "most ann bob 5", "most ann bob1", "high ann", "high ann bob cat",
        "highest ann bob", "low ann", "low ann b_b", "lowest ann bob", "bar ann", "bar ann bob cat", "bar", "bar  ",
        "line ann bob", "line_of ann bob", "read ann", "book", "deed", "~", "!",
    ]


def spoiled_in_a_sign(text):
    """The text with one sign left out, put in, or in the place of another one."""
    signs = " a0z19A-\t\n~"
    for place in range(len(text) + 1):
        yield text[:place] + text[place + 1:]
        for sign in signs:
            yield text[:place] + sign + text[place:]
            yield text[:place] + sign + text[place + 1:]


def spoiled_in_a_word(text):
    """The text with one word left out, put in, or in the place of another one."""
    words = text.split(" ")
    others = [
        "", "ann", "bob", "zed", "abcdefgh", "abcdefghi", "Ann", "0", "1", "01", "-1", GREATEST_LINE, GREATEST_AMOUNT,
        "1" + GREATEST_AMOUNT, "join", "trust", "pay", "turn", "leave", "owes", "houses", "stands", "\t", "\n",
    ]
    for place in range(len(words) + 1):
        yield " ".join(words[:place] + words[place + 1:])
        for word in others + words:
            yield " ".join(words[:place] + [word] + words[place:])
            yield " ".join(words[:place] + [word] + words[place + 1:])


def chance_row(chance, book):
    """A row of a deed, mostly of the book's houses."""
    if len(book.houses) < 3:
        return f"join {chance.choice(webs.HOUSES)}"
    one, other, third = chance.sample(book.houses, 3)
    number = chance.randint(1, 4)
    return chance.choice([
        f"join {chance.choice(webs.HOUSES)}", f"trust {one} {other} {number - 1}", f"trust {one} {other} {number}",
        f"trust {other} {one} {number}", f"pay {one} {other} {number}", f"pay {third} {one} 1",
        f"turn {number} {one} {other} {third}", f"leave {one}",
    ])
