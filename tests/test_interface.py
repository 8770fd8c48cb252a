"""The names and arguments of the interface, as they stand."""

import importlib
import inspect
import unittest

ARGUMENTS = {
    "trustways.names": {
        "is_name": ["thing"],
        "is_amount": ["thing"],
        "is_line": ["thing"],
    },
    "trustways.books": {
        "Book": ["houses", "lines", "owed"],
        "no_houses": [],
        "joined": ["book", "house"],
        "lined": ["book", "one", "other", "line"],
        "owes": ["book", "one", "other"],
        "line_of": ["book", "one", "other"],
        "room": ["book", "one", "other"],
        "standing": ["book", "house"],
        "standings": ["book"],
    },
    "trustways.chains": {
        "room_along": ["book", "chain"],
        "room_round": ["book", "ring"],
        "sent": ["book", "chain", "amount"],
        "turned": ["book", "ring", "amount"],
        "all_sent": ["book", "ways"],
        "all_turned": ["book", "turns"],
    },
    "trustways.roads": {
        "road": ["book", "starts", "goals", "order"],
        "reached": ["book", "some"],
        "rooms_out": ["book", "some"],
    },
    "trustways.payments": {
        "most": ["book", "payer", "taker", "order"],
        "paid": ["book", "payer", "taker", "amount", "order"],
    },
    "trustways.kin": {
        "are_kin": ["book", "other"],
        "turns_to": ["book", "other"],
    },
    "trustways.wishes": {
        "lines_out": ["book", "some"],
        "met": ["book", "wish"],
    },
    "trustways.spreads": {
        "highest": ["book", "one", "other"],
        "lowest": ["book", "one", "other"],
        "lined_anew": ["book", "one", "other", "line"],
    },
    "trustways.leaving": {
        "freed": ["book", "house"],
        "gone": ["book", "house"],
    },
    "trustways.deeds": {
        "Deed": [],
        "Join": ["house"],
        "Trust": ["one", "other", "line"],
        "Pay": ["payer", "taker", "amount"],
        "Turn": ["ring", "amount"],
        "Leave": ["house"],
    },
    "trustways.histories": {
        "run": ["book", "deeds", "order"],
    },
    "trustways.tally": {
        "all_standings": ["book"],
    },
    "trustways.texts": {
        "read": ["row"],
        "written": ["book"],
        "come_up": ["rows"],
    },
    "trustways.desk": {
        "Desk": [],
    },
}

# The methods of each class that has some, with their arguments behind the object itself.
METHODS = {
    "trustways.deeds": {
        "Deed": {"acted": ["book", "order"], "row": []},
        "Join": {"acted": ["book", "order"], "row": []},
        "Trust": {"acted": ["book", "order"], "row": []},
        "Pay": {"acted": ["book", "order"], "row": []},
        "Turn": {"acted": ["book", "order"], "row": []},
        "Leave": {"acted": ["book", "order"], "row": []},
    },
    "trustways.desk": {
        "Desk": {"say": ["row"]},
    },
}


def parameters(call):
    return inspect.signature(call).parameters


def all_methods():
    for module, classes in METHODS.items():
        for name, methods in classes.items():
            for method, arguments in methods.items():
                yield getattr(getattr(importlib.import_module(module), name), method), arguments


def all_calls():
    for module, calls in ARGUMENTS.items():
        for name in calls:
            yield getattr(importlib.import_module(module), name)
    for method, arguments in all_methods():
        yield method


class Interface(unittest.TestCase):
    def test_arguments(self):
        for module, calls in ARGUMENTS.items():
            for name, arguments in calls.items():
                with self.subTest(module=module, name=name):
                    call = getattr(importlib.import_module(module), name)
                    self.assertEqual(call.__module__, module)
                    self.assertEqual(list(parameters(call)), arguments)

    def test_arguments_of_methods(self):
        for method, arguments in all_methods():
            with self.subTest(method=method.__qualname__):
                self.assertEqual(list(parameters(method))[1:], arguments)

    def test_an_order_alone_may_be_left_out_and_is_none_then(self):
        for call in all_calls():
            for argument, told in parameters(call).items():
                with self.subTest(call=call.__qualname__, argument=argument):
                    wanted = None if argument == "order" else inspect.Parameter.empty
                    self.assertIs(told.default, wanted)


if __name__ == "__main__":
    unittest.main()
