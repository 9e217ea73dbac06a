"""The interface: every name stands in the file under which it is listed, with its arguments."""

import importlib
import inspect
import unittest

FUNCTIONS = {
    "plays": {"play": "book deeds", "faults": "book deeds", "boxes": "book deeds"},
    "right": {"first_fault": "book care", "first_of": "book care kind", "is_right": "book care", "idle": "book care",
              "fewest_taken": "book good care"},
    "lasting": {"first_stuck": "book care", "first_dead": "book care"},
    "alike": {"told_apart": "book other care"},
    "texts": {"book_text": "book", "deeds_text": "deeds", "read_book": "text", "read_deeds": "text"},
}
METHODS = {
    ("books", "Book"): {
        "days": "self", "rule": "self moment", "rules": "self", "with_rule": "self moment rule",
        "with_days": "self days", "taking": "self good moments", "__eq__": "self other",
        "__init__": "self days given laid left opened taken gone late power"},
    ("walls", "Wall"): {
        "bring": "self size lays shuts", "code": "self parcel takes shuts", "box": "self number", "pass_by": "self box",
        "day": "self", "power": "self", "change": "self book", "undo": "self", "__len__": "self",
        "__contains__": "self parcel", "__init__": "self book sizes"},
}


class InterfaceTest(unittest.TestCase):
    def test_functions(self):
        for name, functions in FUNCTIONS.items():
            module = importlib.import_module("lockerwall." + name)
            for function, arguments in functions.items():
                found = getattr(module, function)
                self.assertEqual(found.__module__, "lockerwall." + name)
                self.assertEqual(list(inspect.signature(found).parameters), arguments.split())

    def test_classes(self):
        for (module, name), methods in METHODS.items():
            found = getattr(importlib.import_module("lockerwall." + module), name)
            self.assertEqual(found.__module__, "lockerwall." + module)
            for method, arguments in methods.items():
                self.assertIn(method, vars(found))
                self.assertEqual(list(inspect.signature(vars(found)[method]).parameters), arguments.split())

    def test_properties(self):
        found = vars(importlib.import_module("lockerwall.walls").Wall)
        for name in ("parcels", "lying", "book"):
            self.assertIsInstance(found[name], property)
            self.assertEqual(found[name].fset is not None, name == "book")
