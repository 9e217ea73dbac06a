"""The interface: every name stands in the file under which it is listed, with its arguments."""

import importlib
import inspect
import unittest

FUNCTIONS = {
    "plays": {"play": "book deeds", "faults": "book deeds", "boxes": "book deeds"},
    "right": {"first_fault": "book care", "first_of": "book care kind", "is_right": "book care", "idle": "book care",
              "fewest_taken": "book good care"},
}
METHODS = {"days": "self", "rule": "self moment", "rules": "self", "with_rule": "self moment rule",
           "with_days": "self days", "taking": "self good moments", "__eq__": "self other",
           "__init__": "self days given laid left opened taken gone late power"}


class InterfaceTest(unittest.TestCase):
    def test_functions(self):
        for name, functions in FUNCTIONS.items():
            module = importlib.import_module("lockerwall." + name)
            for function, arguments in functions.items():
                found = getattr(module, function)
                self.assertEqual(found.__module__, "lockerwall." + name)
                self.assertEqual(list(inspect.signature(found).parameters), arguments.split())

    def test_book(self):
        book = importlib.import_module("lockerwall.books").Book
        self.assertEqual(book.__module__, "lockerwall.books")
        for method, arguments in METHODS.items():
            self.assertIn(method, vars(book))
            self.assertEqual(list(inspect.signature(vars(book)[method]).parameters), arguments.split())
