"""The names and arguments of the interface, as they stand."""

import importlib
import inspect
import unittest

ARGUMENTS = {
    "trustways.names": {
        "is_name": ["thing"],
        "is_amount": ["thing"],
        "is_line": ["thing"],
    },
    "trustways.books": {
        "Book": ["houses", "lines", "owed"],
        "no_houses": [],
        "joined": ["book", "house"],
        "lined": ["book", "one", "other", "line"],
        "owes": ["book", "one", "other"],
        "line_of": ["book", "one", "other"],
        "room": ["book", "one", "other"],
        "standing": ["book", "house"],
        "standings": ["book"],
    },
    "trustways.chains": {
        "room_along": ["book", "chain"],
        "room_round": ["book", "ring"],
        "sent": ["book", "chain", "amount"],
        "turned": ["book", "ring", "amount"],
        "all_sent": ["book", "ways"],
        "all_turned": ["book", "turns"],
    },
    "trustways.roads": {
        "road": ["book", "starts", "goals", "order"],
        "reached": ["book", "some"],
        "rooms_out": ["book", "some"],
    },
    "trustways.payments": {
        "most": ["book", "payer", "taker", "order"],
        "paid": ["book", "payer", "taker", "amount", "order"],
    },
    "trustways.kin": {
        "are_kin": ["book", "other"],
        "turns_to": ["book", "other"],
    },
}


class Interface(unittest.TestCase):
    def test_arguments(self):
        for module, calls in ARGUMENTS.items():
            for name, arguments in calls.items():
                with self.subTest(module=module, name=name):
                    call = getattr(importlib.import_module(module), name)
                    self.assertEqual(call.__module__, module)
                    self.assertEqual(list(inspect.signature(call).parameters), arguments)

    def test_an_order_alone_may_be_left_out_and_is_none_then(self):
        for module, calls in ARGUMENTS.items():
            for name in calls:
                call = getattr(importlib.import_module(module), name)
                for argument, told in inspect.signature(call).parameters.items():
                    with self.subTest(name=name, argument=argument):
                        wanted = None if argument == "order" else inspect.Parameter.empty
                        self.assertIs(told.default, wanted)


if __name__ == "__main__":
    unittest.main()
