"""[16]: whether two books are the same to everybody."""

import unittest

from lockerwall.alike import told_apart
from lockerwall.books import Book
from lockerwall.errors import NoCare
from lockerwall.plays import play
from tests import oracle
from tests.test_right import BARE, BEST, BRING, CARES, DAY, LEFT, NO_CARES, PASS, POWER, code
from tests.values import ALL_CARE, GOOD

SIMPLE = Book(2, given=("full",), laid=("code",), taken=("free",))


class Apart(unittest.TestCase):
    def check(self, book, other, care, many):
        """Check that the shortest list has so many deeds, whichever book is first; None stands for no list."""
        for one, two in ((book, other), (other, book)):
            found = told_apart(one, two, care)
            if many is None:
                self.assertIsNone(found)
                continue
            self.assertIs(type(found), list)
            self.assertEqual(len(found), many, found)
            self.assertTrue(oracle.is_allowed(one, care, found))
            self.assertTrue(oracle.is_allowed(two, care, found))
            self.assertNotEqual(play(one, found), play(two, found))
            self.assertEqual(play(one, found[:-1]), play(two, found[:-1]))


class AlikeTest(Apart):
    def test_equal_books(self):
        for care in CARES:
            for book in (Book(1), GOOD, BEST, SIMPLE, Book(30, given=("off",), late=("free", "void"))):
                self.check(book, book.with_days(book.days()), care, None)

    def test_books_that_look_unlike(self):
        for care in CARES:
            self.check(SIMPLE, SIMPLE.with_rule("given", ("off", "free", "full")), care, None)
            self.check(SIMPLE, SIMPLE.with_rule("taken", ("lock", "free", "lock")), care, None)
            self.check(SIMPLE, SIMPLE.with_rule("laid", ("lock", "code")), care, None)
            self.check(Book(1), Book(30, opened=("off",), taken=("void",), gone=("look",)), care, None)
            self.check(GOOD, GOOD.with_rule("given", ("void", "off", "full")), care, None)
            self.check(Book(2, given=("lock",)), Book(2, given=("lock",), laid=("full",), left=("off",)), care, None)

    def test_numbers_of_days_that_nobody_sees(self):
        for care in CARES:
            self.check(GOOD, GOOD.with_days(30), care, None)
            self.check(GOOD.with_rule("late", ("code", "free", "full")).with_rule("laid", ()).with_rule("left", ()),
                       GOOD.with_rule("late", ("code", "full")).with_rule("laid", ()).with_rule("left", ()), care, None)
            self.check(Book(1, given=("off",), late=("full", "void")), Book(9, given=("off",), late=("off",)), care, None)

    def test_rules_that_are_carried_out_with_a_care_only(self):
        for care in CARES:
            self.check(SIMPLE, SIMPLE.with_rule("left", ("free",)), care, 2 if "ajar" in care else None)
            self.check(SIMPLE, SIMPLE.with_rule("power", ("free",)), care, 3 if "power" in care else None)
            self.check(SIMPLE, SIMPLE.with_rule("power", ("off",)), care, 2 if "power" in care else None)

    def test_what_is_inside_and_nobody_gets(self):
        for care in CARES:
            self.check(Book(1, given=("lock", "off")), Book(1, given=("off",)), care, None if not (
                "ajar" in care and "stranger" in care) else 2)

    def test_who_is_served_comes_again_only_with_twice(self):
        book = SIMPLE.with_rule("given", ("void", "full"))
        for care in CARES:
            if "bare" not in care and "ajar" not in care:
                self.check(book, book.with_rule("taken", ("free", "void")), care, 3 if "twice" in care else None)


class UnlikeTest(Apart):
    def test_letters(self):
        self.check(SIMPLE, SIMPLE.with_rule("laid", ()), (), 1)
        self.check(SIMPLE, SIMPLE.with_rule("laid", ("code", "code")), (), 1)
        self.check(SIMPLE, SIMPLE.with_rule("power", ("code",)), ("power",), 2)
        self.check(SIMPLE, SIMPLE.with_rule("opened", ("code",)), (), 2)
        self.assertEqual(told_apart(SIMPLE, SIMPLE.with_rule("laid", ()), ()), [BRING])

    def test_who_is_sent_away(self):
        self.check(SIMPLE, SIMPLE.with_rule("taken", ()), (), 3)
        self.assertEqual(told_apart(SIMPLE, SIMPLE.with_rule("taken", ()), ()), [BRING, code(1), BRING])
        self.check(Book(1), Book(1, given=("full",)), (), 2)
        self.check(Book(1), Book(1, power=("off",)), ("power",), 2)
        self.assertEqual(told_apart(Book(1), Book(1, power=("off",)), ("power",)), [POWER, BRING])

    def test_who_is_refused(self):
        self.check(SIMPLE, SIMPLE.with_rule("laid", ("code", "void")), (), 2)
        self.assertEqual(told_apart(SIMPLE, SIMPLE.with_rule("laid", ("code", "void")), ()), [BRING, code(1)])
        self.check(SIMPLE, SIMPLE.with_rule("power", ("void",)), ("power",), 3)

    def test_what_is_taken(self):
        self.check(SIMPLE, SIMPLE.with_rule("opened", ("lock",)), (), 2)
        self.check(Book(1), Book(1, left=("lock",)), ("ajar", "stranger"), 2)
        self.assertEqual(told_apart(Book(1), Book(1, left=("lock",)), ("ajar", "stranger")), [LEFT, PASS])
        for care in CARES:
            if "ajar" not in care or "stranger" not in care:
                self.check(Book(1), Book(1, left=("lock",)), care, None)

    def test_bare(self):
        self.check(SIMPLE, SIMPLE.with_rule("laid", ("look", "full", "code")), ALL_CARE, None)
        self.check(SIMPLE, SIMPLE.with_rule("laid", ("look", "code")), (), None)
        self.check(SIMPLE, SIMPLE.with_rule("laid", ("look", "code")), ("bare",), 1)
        self.assertEqual(told_apart(SIMPLE, SIMPLE.with_rule("laid", ("look", "code")), ("bare",)), [BARE])

    def test_days(self):
        late = SIMPLE.with_rule("late", ("code",))
        for one, two in ((1, 2), (1, 30), (29, 30), (12, 30)):
            self.check(late.with_days(one), late.with_days(two), (), 1 + one)
            self.check(late.with_days(one), late.with_days(two), ALL_CARE, 1 + one)
        self.assertEqual(told_apart(late.with_days(2), late.with_days(5), ()), [BRING, DAY, DAY])
        self.check(SIMPLE.with_days(30), late.with_days(30), (), 31)
        self.check(SIMPLE.with_days(1), late.with_days(30), (), 31)

    def test_both_numbers_of_days_are_reached(self):
        # The first book sends a code when its days are over, and the other one makes it void, later or before.
        for one, two, many in ((3, 5, 4), (5, 3, 6), (4, 4, 5)):
            book = Book(one, given=("full",), late=("code",))
            self.check(book, Book(two, given=("full",), late=("void",)), (), many)
        sends = ("full", "code", "off")
        for one, two in ((3, 5), (5, 3), (30, 1), (29, 30)):
            book = Book(one, given=("off",), laid=sends, late=("full", "off"))
            self.check(book, Book(two, given=("off",), laid=sends, late=("void",)), (), two + 2)

    def test_a_list_with_days_is_not_taken_for_shorter_than_it_is(self):
        # The days show it in one step, but other deeds show it sooner.
        book = Book(9, given=("full",), laid=("code",), taken=("free",))
        other = book.with_rule("late", ("code",)).with_rule("taken", ())
        self.check(book, other, (), 3)
        self.check(book.with_days(1), other.with_days(1), (), 2)

    def test_another_person_comes_behind_one_who_took_all(self):
        book = Book(1, given=("full", "code"), laid=("free",), opened=("full", "code", "free"))
        other = book.with_rule("opened", ("look", "code", "free"))
        self.check(book, other, (), 4)
        self.check(book, other, ("twice",), 3)
        self.check(book, other, ("bare",), 2)
        self.assertEqual(sorted(told_apart(book, other, ())[2:]), [code(1), code(2)])

    def test_what_has_to_be_told_of_parcels(self):
        # Of each of these the slow telling, too, finds the same number of deeds.
        # Who is served does not come again; so the last parcel has to be one that was never laid in.
        power = ("code", "look")
        self.check(Book(1, taken=("void",), power=power), Book(1, taken=("full", "void"), power=power), ("bare", "power"), 8)
        # The one who comes has to be another one than the last.
        book = Book(1, given=("look",), laid=("code",), opened=("code",), late=("free",))
        self.check(book, book.with_rule("opened", ("void", "code")), (), 6)
        # A parcel lies in one box only.
        self.check(Book(1, given=("off",), late=("look",)), Book(1, given=("off", "lock")), ("bare",), 3)
        # A code is valid at one box only.
        book = Book(1, laid=("look",), late=("free",), power=("code",))
        self.check(book, book.with_rule("opened", ("void",)), ("bare", "power"), 6)
        # Somebody took the parcel, at both boxes.
        book = Book(1, laid=("full",), left=("look",))
        self.check(book, book.with_rule("late", ("look",)), ("ajar", "stranger"), 4)

    def test_a_list_with_faults_counts(self):
        self.check(SIMPLE.with_rule("given", ()), Book(2, laid=("code",), taken=("free",), late=("off",)), (), 4)
        self.check(Book(1, laid=("full", "code", "free")), Book(1, laid=("full", "code", "free"), taken=("void",)), (), 4)

    def test_by_name_and_with_either_book_first(self):
        self.assertEqual(told_apart(care=(), other=SIMPLE.with_rule("laid", ()), book=SIMPLE), [BRING])
        self.assertEqual(told_apart(SIMPLE.with_rule("laid", ()), SIMPLE, ()), [BRING])
        self.assertIsNone(told_apart(care=(), other=SIMPLE, book=SIMPLE))

    def test_no_care(self):
        for odd in NO_CARES:
            with self.assertRaises(NoCare):
                told_apart(GOOD, BEST, odd)
            with self.assertRaises(NoCare):
                told_apart(GOOD, GOOD, odd)

    def test_each_list_is_a_new_one(self):
        told_apart(SIMPLE, Book(1), ()).append(PASS)
        self.assertEqual(told_apart(SIMPLE, Book(1), ()), [BRING])


if __name__ == "__main__":
    unittest.main()
