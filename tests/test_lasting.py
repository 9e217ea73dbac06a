"""[14]: parcels that nobody can get out any more, and boxes that never take a parcel again."""

import unittest

from lockerwall.books import Book
from lockerwall.errors import NoCare
from lockerwall.lasting import first_dead, first_stuck
from lockerwall.plays import boxes, faults
from tests import oracle
from tests.test_right import BARE, BEST, BRING, CARES, DAY, LEFT, NO_CARES, PASS, POWER, code
from tests.values import ALL_CARE, GOOD, ODD

SIMPLE = Book(2, given=("full",), laid=("code",), taken=("free",))


class LastingTest(unittest.TestCase):
    def check_clean(self, book, care, deeds, many):
        """Check that deeds are a clean list of so many deeds."""
        self.assertIs(type(deeds), list)
        self.assertEqual(len(deeds), many, deeds)
        self.assertTrue(oracle.is_allowed(book, care, deeds), deeds)
        self.assertEqual(faults(book, deeds), [])

    def check(self, book, care, stuck, dead):
        """Check of how many deeds the shortest lists are; None stands for no list."""
        found = first_stuck(book, care)
        if stuck is None:
            self.assertIsNone(found)
        else:
            self.check_clean(book, care, found, stuck)
            self.assertEqual(len(boxes(book, found)[1]), 1)
        found = first_dead(book, care)
        if dead is None:
            self.assertIsNone(found)
        else:
            self.check_clean(book, care, found, dead)


class HandMadeTest(LastingTest):
    def test_a_book_without_rules(self):
        for days in (1, 30):
            for care in CARES:
                self.check(Book(days), care, 1, 1)
            self.assertEqual(first_stuck(Book(days), ()), [BRING])
            self.assertEqual(first_dead(Book(days), ()), [BRING])

    def test_the_best_book(self):
        for days in (1, 2, 30):
            for care in CARES:
                self.check(BEST.with_days(days), care, None, None)

    def test_a_box_that_is_dead_from_the_beginning(self):
        for care in CARES:
            self.check(Book(3, given=("lock",)), care, None, 0)
        self.assertEqual(first_dead(Book(3, given=("lock",)), ALL_CARE), [])
        self.assertEqual(first_dead(Book(30, given=("code", "lock")), ()), [])

    def test_a_parcel_without_a_code(self):
        book = SIMPLE.with_rule("laid", ())
        for care in CARES:
            self.check(book, care, 1, 1)

    def test_a_box_that_stays_full_or_out_of_use(self):
        for taken in ((), ("full",), ("off",), ("free", "off")):
            book = SIMPLE.with_rule("taken", taken)
            self.check(book, (), None, 1)
            self.assertEqual(first_dead(book, ()), [BRING])

    def test_a_code_that_is_sent_late(self):
        for days in (1, 2, 30):
            book = Book(days, given=("full",), taken=("free",), late=("code",))
            self.check(book, (), None, None)
            self.check(book.with_rule("late", ("code", "void")), (), 1, 1)

    def test_a_code_that_is_void_late(self):
        for days in (1, 2, 30):
            book = SIMPLE.with_days(days).with_rule("late", ("void",))
            self.check(book, (), days + 1, days + 1)
            self.assertEqual(first_stuck(book, ()), [BRING] + [DAY] * days)
            self.assertEqual(first_dead(book, ()), [BRING] + [DAY] * days)

    def test_a_code_that_is_void_late_and_is_sent_again_at_a_power_failure(self):
        book = SIMPLE.with_days(30).with_rule("late", ("void",)).with_rule("power", ("code",))
        self.check(book, (), 31, 31)
        self.check(book, ("power",), None, None)

    def test_a_box_that_comes_back_late(self):
        book = Book(30, given=("off",), laid=("full", "code", "off"), late=("free",))
        self.check(book, (), None, None)
        # The look makes it full as long as nobody has taken the parcel, and nothing makes it free afterwards.
        self.check(book.with_rule("late", ("look",)), (), None, 31)
        self.check(book.with_rule("late", ("look",)).with_rule("taken", ("look",)), (), None, None)
        self.check(book.with_rule("late", ("void",)), (), 31, 1)

    def test_by_name(self):
        self.assertEqual(first_stuck(care=(), book=Book(1)), [BRING])
        self.assertEqual(first_dead(care=(), book=Book(1)), [BRING])

    def test_no_care(self):
        for odd in NO_CARES:
            for function in (first_stuck, first_dead):
                with self.assertRaises(NoCare):
                    function(GOOD, odd)
        self.assertNotIn((), NO_CARES)
        self.assertIn(None, ODD)

    def test_each_list_is_a_new_one(self):
        for function in (first_stuck, first_dead):
            function(Book(1), ()).append(PASS)
            self.assertEqual(function(Book(1), ()), [BRING])


class CarelessTest(LastingTest):
    def test_bare(self):
        self.check(SIMPLE, (), None, None)
        self.check(SIMPLE, ("bare",), None, 1)
        self.assertEqual(first_dead(SIMPLE, ("bare",)), [BARE])

    def test_ajar(self):
        for care in CARES:
            if "ajar" in care and "bare" not in care:
                self.check(SIMPLE, care, 1, 1)
        self.assertEqual(first_stuck(SIMPLE, ("ajar",)), [LEFT])
        self.assertEqual(first_dead(SIMPLE, ("ajar",)), [LEFT])
        self.check(SIMPLE.with_rule("left", ("code",)), ("ajar",), None, 2)
        self.assertEqual(first_dead(SIMPLE.with_rule("left", ("code",)), ("ajar",))[1], code(1, True, False))
        self.check(SIMPLE.with_rule("left", ("code",)).with_rule("gone", ("look",)), ("ajar",), None, None)

    def test_power(self):
        self.check(SIMPLE, ("power",), None, None)
        self.check(SIMPLE.with_rule("power", ("void",)), (), None, None)
        self.check(SIMPLE.with_rule("power", ("void",)), ("power",), 2, 2)
        self.assertEqual(first_stuck(SIMPLE.with_rule("power", ("void",)), ("power",)), [BRING, POWER])
        self.check(SIMPLE.with_rule("power", ("off",)), ("power",), None, 1)
        self.assertEqual(first_dead(SIMPLE.with_rule("power", ("off",)), ("power",)), [POWER])

    def test_stranger(self):
        # What a stranger takes goes wrong; so in a clean list they find nothing, and change nothing.
        for care in CARES:
            if "stranger" in care:
                without = tuple(word for word in care if word != "stranger")
                for book in (SIMPLE, GOOD, SIMPLE.with_rule("left", ("code",))):
                    for function in (first_stuck, first_dead):
                        one, other = function(book, care), function(book, without)
                        self.assertEqual(one is None, other is None)
                        self.assertEqual(len(one or []), len(other or []))

    def test_twice(self):
        self.check(SIMPLE, ("twice",), None, None)
        # The next courier's parcel makes the code void of the one that lies there; both were sent.
        book = SIMPLE.with_rule("given", ("void", "full"))
        self.check(book, ("twice",), None, None)
        self.check(book, ("bare", "twice"), 3, 1)
        self.assertEqual(first_stuck(book, ("bare", "twice")), [BRING, code(1, False), BARE])
        # Who comes a second time finds the box taken for full.
        book = SIMPLE.with_rule("opened", ("look", "void")).with_rule("taken", ("off",))
        self.check(book, ("twice",), 2, 1)
        self.assertEqual(first_stuck(book, ("twice",)), [BRING, code(1, False)])
        self.check(book, (), None, 1)

    def test_all_five_and_the_book_of_the_example(self):
        for care in CARES:
            self.check(GOOD, care, 3 if "bare" in care and "twice" in care else None, 1 if "bare" in care else None)
        self.check(GOOD, ALL_CARE, 3, 1)
        self.check(GOOD, ALL_CARE[::-1], 3, 1)

    def test_a_deed_that_goes_wrong_helps_nobody(self):
        # The second parcel would bring the code along, but it would lie beside the first one.
        book = Book(1, given=("code",), laid=("full",), power=("free",))
        self.check(book, ("power",), 1, 1)
        self.check(book, ("bare", "power"), 1, 1)
        self.check(book.with_rule("power", ("code",)), ("power",), None, 1)
        # Others would have to take it, and that goes wrong, too.
        book = Book(1, given=("full",), left=("code", "void"), laid=("code", "void"))
        self.check(book, ("ajar", "stranger"), 1, 1)

    def test_lists_that_are_long(self):
        # Persons differ by whether they have taken their parcel: who has finds the box empty, and nothing goes wrong.
        book = Book(1, laid=("look",), opened=("free",), late=("full", "code", "look"))
        self.check(book, ("bare", "twice"), 6, 6)
        self.check(Book(1, laid=("full",), opened=("off",), late=("code", "free")), ("bare", "twice"), 7, 3)
        book = Book(1, laid=("full", "code"), opened=("look",), taken=("void",), late=("code",), power=("void",))
        self.check(book, ("bare", "power", "twice"), 3, 1)
        self.check(Book(1, laid=("look", "code"), power=("free",)), ("bare", "power"), None, None)
        self.check(Book(1, late=("void",), power=("look", "code")), ("power",), None, None)


if __name__ == "__main__":
    unittest.main()
