"""[15]: the moments whose rules are never carried out."""

import unittest

from lockerwall.books import Book
from lockerwall.right import idle
from tests.test_right import BEST, CARES
from tests.values import ALL_CARE, GOOD

MOMENTS = ["given", "laid", "left", "opened", "taken", "gone", "late", "power"]


class IdleTest(unittest.TestCase):
    def test_by_care(self):
        for book in (GOOD, BEST, BEST.with_days(30), GOOD.with_days(1)):
            for care in CARES:
                wanted = []
                if "ajar" not in care:
                    wanted += ["left", "gone"]
                if "power" not in care:
                    wanted += ["power"]
                self.assertEqual(idle(book, care), wanted)

    def test_each_kind_alone(self):
        self.assertEqual(idle(GOOD, ()), ["left", "gone", "power"])
        self.assertEqual(idle(GOOD, ("ajar",)), ["power"])
        self.assertEqual(idle(GOOD, ("bare",)), ["left", "gone", "power"])
        self.assertEqual(idle(GOOD, ("power",)), ["left", "gone"])
        self.assertEqual(idle(GOOD, ("stranger",)), ["left", "gone", "power"])
        self.assertEqual(idle(GOOD, ("twice",)), ["left", "gone", "power"])
        self.assertEqual(idle(care=ALL_CARE, book=GOOD), [])

    def test_a_door_that_given_locks(self):
        self.assertEqual(idle(Book(1, given=("lock",)), ALL_CARE), ["laid", "left", "opened", "taken", "gone"])

    def test_a_door_that_opened_locks(self):
        book = GOOD.with_rule("opened", ("lock",))
        self.assertEqual(idle(book, ALL_CARE), ["taken", "gone"])

    def test_rules_without_actions_count(self):
        self.assertEqual(idle(Book(1), ()), ["left", "opened", "taken", "gone", "power"])
        self.assertEqual(idle(Book(1), ("ajar", "power")), ["opened", "taken", "gone"])

    def test_given_and_late_are_never_idle(self):
        for days in range(1, 31):
            book = Book(days, given=("off", "lock"))
            self.assertEqual(idle(book, ()), [moment for moment in MOMENTS if moment not in ("given", "late")])

    def test_only_clean_lists_count(self):
        empty = Book(1, given=("full", "code", "lock"))
        self.assertEqual(idle(empty, ALL_CARE), ["laid", "left", "opened", "taken", "gone"])
        left = Book(1, given=("off",), laid=("free",), left=("full", "code"))
        self.assertEqual(idle(left, ("ajar",)), ["power"])
        two = Book(1, given=("off",), laid=("free",), late=("off", "look"))
        self.assertEqual(idle(two, ()), ["left", "opened", "taken", "gone", "power"])

    def test_behind_a_fault_only(self):
        # The code is sent at the second bring alone, and two parcels lie in the box then.
        book = Book(3, given=("look", "code"))
        self.assertEqual(idle(book, ()), ["left", "opened", "taken", "gone", "power"])
        self.assertEqual(idle(book, ("twice", "power")), ["left", "opened", "taken", "gone"])

    def test_behind_many_days(self):
        book = Book(30, given=("off",), late=("full", "code"))
        self.assertEqual(idle(book, ()), ["left", "gone", "power"])
