"""[17]: the fewest moments to take over."""

import itertools
import unittest

from lockerwall.books import Book
from lockerwall.right import fewest_taken, is_right
from tests.test_right import BEST, CARES
from tests.values import ALL_CARE, GOOD

MOMENTS = ("given", "laid", "left", "opened", "taken", "gone", "late", "power")


def tried_one_by_one(book, good, care):
    """Return what is wanted by trying all choices, fewer moments first, in the order of the moments."""
    for many in range(9):
        for chosen in itertools.combinations(MOMENTS, many):
            if is_right(book.taking(good, chosen), care):
                return chosen
    return None


def changed(care, **rules):
    """Return a book whose rules differ from those of the good one, and the care for which it is tried."""
    book = GOOD
    for moment, rule in rules.items():
        book = book.with_rule(moment, rule)
    return book, care


class FewestTest(unittest.TestCase):
    def test_right_already(self):
        self.assertEqual(fewest_taken(GOOD, Book(1), ()), ())
        self.assertEqual(fewest_taken(BEST, Book(1), ALL_CARE), ())

    def test_one(self):
        for days in (1, 2, 15, 30):
            book = GOOD.with_days(days).with_rule("late", ("free",))
            self.assertEqual(fewest_taken(book, GOOD, ()), ("late",))
        self.assertEqual(fewest_taken(GOOD.with_rule("laid", ("code", "free")), GOOD, ()), ("laid",))
        self.assertEqual(fewest_taken(care=("power",), good=GOOD, book=GOOD.with_rule("power", ("off", "free"))),
                         ("power",))

    def test_several_in_the_order_of_the_moments(self):
        book, care = changed(("power",), power=("free",), late=("free",), laid=("code", "free"))
        self.assertEqual(fewest_taken(book, GOOD, ()), ("laid", "late"))
        self.assertEqual(fewest_taken(book, GOOD, care), ("laid", "late", "power"))

    def test_only_what_the_care_needs(self):
        book, care = changed(("ajar",), left=("free",), power=("free",))
        self.assertEqual(fewest_taken(book, GOOD, ()), ())
        self.assertEqual(fewest_taken(book, GOOD, care), ("left",))
        self.assertEqual(fewest_taken(book, GOOD, ("power",)), ("power",))
        self.assertEqual(fewest_taken(book, GOOD, ("power", "ajar")), ("left", "power"))

    def test_the_first_of_several(self):
        book, care = changed(("power",), laid=("full",), gone=("code",), late=("code", "code"), power=("void", "full"))
        self.assertTrue(is_right(book.taking(GOOD, ("power",)), care))
        self.assertEqual(fewest_taken(book, GOOD, care), ("late",))
        book, care = changed(("ajar", "bare", "stranger", "twice"), given=("off",), laid=("lock", "look"),
                             left=("off", "look"), late=("code",))
        self.assertTrue(is_right(book.taking(GOOD, ("left", "late")), care))
        self.assertEqual(fewest_taken(book, GOOD, care), ("laid", "left"))
        book, care = changed(("ajar", "power", "stranger"), given=("lock", "look"), late=("full",),
                             power=("code", "off"))
        self.assertTrue(is_right(book.taking(GOOD, ("late",)), care))
        self.assertEqual(fewest_taken(book, GOOD, care), ("given",))

    def test_none(self):
        self.assertIsNone(fewest_taken(GOOD, GOOD, ("bare",)))
        self.assertIsNone(fewest_taken(Book(1), Book(9), ()))
        self.assertIsNone(fewest_taken(Book(1), Book(9, opened=("void",)), ALL_CARE))

    def test_the_good_book_need_not_be_right(self):
        good = Book(1, given=("off", "lock"), laid=("free",), late=("free",))
        book = Book(1)
        self.assertFalse(is_right(good.with_rule("given", ("off",)), ()))
        self.assertEqual(fewest_taken(book, good, ALL_CARE), ("given",))

    def test_each_care(self):
        books = [Book(2), Book(30, given=("full",), laid=("code",), taken=("free",)),
                 GOOD.with_rule("late", ("void",)).with_rule("power", ("free",)).with_rule("left", ())]
        for book in books:
            for care in CARES:
                self.assertEqual(fewest_taken(book, BEST, care), tried_one_by_one(book, BEST, care))

    def test_kinds_of_values(self):
        self.assertIs(type(fewest_taken(Book(1), BEST, ())), tuple)
        for chosen in (fewest_taken(Book(1), BEST, ALL_CARE), fewest_taken(GOOD, BEST, ALL_CARE)):
            self.assertTrue(set(chosen) <= set(MOMENTS))
            self.assertEqual(list(chosen), [moment for moment in MOMENTS if moment in chosen])
