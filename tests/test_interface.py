"""The names and arguments of the interface, as they stand."""

import importlib
import inspect
import unittest

ARGUMENTS = {
    "trustways.names": {
        "is_name": ["thing"],
        "is_amount": ["thing"],
        "is_line": ["thing"],
    },
    "trustways.books": {
        "Book": ["houses", "lines", "owed"],
        "no_houses": [],
        "joined": ["book", "house"],
        "lined": ["book", "one", "other", "line"],
        "owes": ["book", "one", "other"],
        "line_of": ["book", "one", "other"],
        "room": ["book", "one", "other"],
        "standing": ["book", "house"],
        "standings": ["book"],
    },
}


class Interface(unittest.TestCase):
    def test_arguments(self):
        for module, calls in ARGUMENTS.items():
            for name, arguments in calls.items():
                with self.subTest(module=module, name=name):
                    call = getattr(importlib.import_module(module), name)
                    self.assertEqual(call.__module__, module)
                    self.assertEqual(list(inspect.signature(call).parameters), arguments)


if __name__ == "__main__":
    unittest.main()
