"""[12] and [13]: cares, and whether a book is right for one."""

import copy
import itertools
import unittest

from lockerwall.books import Book
from lockerwall.errors import NoCare, NoKind
from lockerwall.plays import faults
from lockerwall.right import fewest_taken, first_fault, first_of, idle, is_right
from tests import oracle
from tests.values import ALL_CARE, GOOD, ODD, all_but

KINDS = ("two", "wrong", "empty", "refused")
BRING = ("bring", True, True)
BARE = ("bring", False, True)
LEFT = ("bring", True, False)
DAY, POWER, PASS = ("day",), ("power",), ("pass",)
CARES = [care for many in range(6) for care in itertools.combinations(ALL_CARE, many)]
NO_CARES = all_but([()]) + [("ajar", "ajar"), ("ajar", "bare", "power", "stranger", "twice", "ajar"), ["ajar"], "ajar",
                            ("Ajar",), ("ajar ",), ("two",), ("ajar", None), ("ajar", ["bare"]), (True,), (0,),
                            ("ajar", "bare", 1), {"ajar"}, (("ajar",),), ("",), ("ajar bare",)]
# It is right for every care: a second look at the box undoes what people do badly.
BEST = Book(2, given=("void", "full"), laid=("look", "code"), left=("lock", "look", "code"), taken=("look",),
            gone=("lock", "look"), power=("lock",))


def code(parcel, takes=True, shuts=True):
    return ("code", parcel, takes, shuts)


class Checked(unittest.TestCase):
    def check_list(self, book, care, deeds, many, kind=None):
        """Check that a list has so many deeds, is allowed, and goes wrong at its last deed and not before."""
        self.assertIs(type(deeds), list)
        self.assertEqual(len(deeds), many)
        self.assertTrue(oracle.is_allowed(book, care, deeds), deeds)
        found = faults(book, deeds)
        self.assertEqual(found, oracle.told(book, deeds)[1])
        self.assertEqual({index for _, index in found}, {many - 1})
        if kind is not None:
            self.assertIn((kind, many - 1), found)

    def check_first(self, book, care, many, kind=None):
        """Check that the shortest lists with a fault, and perhaps with one of this kind, have so many deeds."""
        self.check_list(book, care, first_fault(book, care), many)
        self.assertIs(is_right(book, care), False)
        if kind is not None:
            self.check_list(book, care, first_of(book, care, kind), many, kind)


class RightTest(Checked):
    def test_best_is_right_for_every_care(self):
        for days in (1, 2, 30):
            for care in CARES:
                self.assertIsNone(first_fault(BEST.with_days(days), care))
                self.assertIs(is_right(BEST.with_days(days), care), True)
                for kind in KINDS:
                    self.assertIsNone(first_of(BEST.with_days(days), care, kind))

    def test_the_order_in_a_care_does_not_matter(self):
        for care in CARES:
            one, other = first_fault(GOOD, care), first_fault(GOOD, care[::-1])
            self.assertEqual(one is None, other is None)
            self.assertEqual(len(one or []), len(other or []))

    def test_book_of_the_example(self):
        for care in CARES:
            many = 2 if "bare" in care else 3 if "twice" in care else None
            if many is None:
                self.assertIsNone(first_fault(GOOD, care))
                self.assertIs(is_right(GOOD, care), True)
            else:
                self.check_first(GOOD, care, many)

    def test_a_book_without_rules(self):
        self.check_first(Book(1), (), 2, "two")
        self.assertEqual(first_fault(Book(1), ()), [BRING, BRING])
        for kind in ("wrong", "empty", "refused"):
            self.assertIsNone(first_of(Book(1), (), kind))

    def test_a_book_that_never_gives_twice(self):
        self.assertTrue(is_right(Book(1, given=("off", "lock")), ALL_CARE))

    def test_by_name(self):
        self.assertEqual(first_fault(care=("bare",), book=GOOD), [BARE, code(1)])
        self.assertIs(is_right(care=("bare",), book=GOOD), False)
        self.assertEqual(first_of(kind="empty", care=("bare",), book=GOOD), [BARE, code(1)])

    def test_each_kind_of_carelessness_alone(self):
        full = Book(2, given=("void", "full"), laid=("code",), taken=("free",))
        self.assertTrue(is_right(full, ()))
        self.assertEqual(first_fault(full, ("bare",)), [BARE, code(1)])
        self.assertEqual(first_fault(full.with_rule("left", ("free",)), ("ajar",))[0], LEFT)
        self.check_first(full.with_rule("left", ("free",)), ("ajar",), 2, "two")
        self.check_first(full.with_rule("power", ("free",)), ("power",), 3, "two")
        self.check_first(full.with_rule("power", ("void",)), ("power",), 3, "refused")
        self.check_first(full, ("twice",), 3, "two")
        self.assertIsNone(first_fault(full, ("stranger",)))
        for care in ((), ("bare",), ("power",), ("stranger",), ("twice",)):
            self.assertIsNone(first_of(full.with_rule("left", ("free",)), care, "wrong"))

    def test_stranger_and_ajar_together(self):
        full = Book(2, given=("void", "full"), laid=("code",), taken=("free",))
        self.assertTrue(is_right(full, ("stranger",)))
        self.assertTrue(is_right(full, ("ajar",)))
        self.assertEqual(first_fault(full, ("stranger", "ajar")), [LEFT, PASS])
        self.check_first(full.with_rule("left", ("lock", "code", "off")), ("ajar", "stranger", "twice"), 3)

    def test_power_only_with_power(self):
        book = GOOD.with_rule("power", ("free",))
        for care in CARES:
            if "power" not in care:
                self.assertEqual(first_fault(book, care) is None, first_fault(GOOD, care) is None)
        self.assertEqual(first_fault(book, ("power",)), [BRING, POWER, BRING])

    def test_power_before_the_box_is_given(self):
        book = Book(1, given=("code", "off"), laid=(), power=("full", "code", "free", "full"))
        self.assertIsNone(first_fault(book, ("power",)))

    def test_twice_lets_a_person_come_again(self):
        book = Book(1, given=("full",), laid=("code",), taken=("free",))
        self.assertIsNone(first_fault(book, ()))
        self.check_first(book, ("twice",), 3, "two")
        self.check_list(book, ("twice",), first_of(book, ("twice",), "wrong"), 4, "wrong")
        self.assertEqual(first_of(book, ("twice",), "wrong"), [BRING, code(1), BRING, code(1)])

    def test_without_twice_a_person_who_took_does_not_come_again(self):
        book = Book(1, given=("full",), laid=("code",), taken=("free",))
        for care in ((), ("ajar",), ("power",), ("stranger",), ("ajar", "power"), ("power", "stranger")):
            self.assertIsNone(first_of(book, care, "wrong"))
            self.check_list(book, care + ("twice",), first_of(book, care + ("twice",), "wrong"), 4, "wrong")

    def test_without_twice_a_person_who_could_not_take_comes_again(self):
        book = Book(1, given=("full",), laid=("code",), opened=("lock", "void"))
        self.assertEqual(first_fault(book, ()), [BRING, code(1), code(1)])
        self.check_first(book, (), 3, "refused")


class DaysTest(Checked):
    def test_late_gives_the_box_again(self):
        for days in range(1, 31):
            book = GOOD.with_days(days).with_rule("late", ("free",))
            self.check_first(book, (), days + 2, "two")
            self.check_first(book, ("ajar", "power", "stranger"), days + 2, "two")

    def test_late_makes_the_code_invalid(self):
        for days in range(1, 31):
            book = GOOD.with_days(days).with_rule("late", ("void",))
            self.check_first(book, (), days + 2, "refused")
            self.assertEqual(first_of(book, (), "refused"), [BRING] + [DAY] * days + [code(1)])

    def test_late_twice(self):
        for days in (1, 2, 30):
            book = Book(days, given=("void", "off"), laid=("full",), taken=("free",), late=("code", "look"),
                        opened=("off",), gone=("lock",))
            self.assertIsNone(first_fault(book, ()))
            self.check_list(book, ("bare",), first_of(book, ("bare",), "empty"), days + 2, "empty")
            book = Book(days, given=("full",), laid=("full",), late=("code", "free"))
            self.check_list(book, (), first_of(book, (), "two"), days + 2, "two")
            self.check_list(book, ("bare",), first_of(book, ("bare",), "wrong"), days + 3, "wrong")

    def test_longer_than_two_numbers_of_days(self):
        book = Book(30, given=("look",), laid=("off",), late=("full", "code", "off"), opened=("free", "void"))
        self.assertEqual(len(first_of(book, ("twice",), "two")), 33)
        book = Book(30, given=("off",), late=("full", "code", "off"), taken=("full",), power=("free",), opened=("off",))
        found = first_of(book, ("power", "twice", "bare"), "empty")
        self.check_list(book, ("power", "twice", "bare"), found, 32, "empty")
        book = Book(30, given=("off",), laid=("off",), late=("full", "code", "off"), taken=("free",), power=("void",))
        self.assertTrue(is_right(book, ()))
        found = first_of(book, ("twice",), "wrong")
        self.check_list(book, ("twice",), found, 34, "wrong")

    def test_a_day_too_few_does_nothing(self):
        book = GOOD.with_days(30).with_rule("late", ("free",))
        deeds = first_fault(book, ())
        self.assertEqual(deeds.count(DAY), 30)


class FirstOfTest(Checked):
    def test_each_kind(self):
        full = Book(2, laid=("full", "code", "free"), left=("full", "code", "free"), power=("void",))
        self.assertEqual(first_of(full, (), "two"), [BRING, BRING])
        self.assertEqual(first_of(full, ("bare",), "empty"), [BARE, code(1)])
        self.assertEqual(first_of(full, ("power",), "refused"), [BRING, POWER, code(1)])
        self.assertEqual(first_of(full, ("ajar", "stranger"), "wrong"), [LEFT, PASS])
        self.check_list(full, ("bare",), first_of(full, ("bare",), "wrong"), 3, "wrong")
        self.assertEqual(first_of(full, ("twice",), "wrong"), [BRING, code(1), BRING, code(1)])
        self.assertIsNone(first_of(full, (), "empty"))
        self.assertIsNone(first_of(full, (), "refused"))
        self.assertIsNone(first_of(full, ("stranger",), "wrong"))

    def test_no_fault_before(self):
        book = Book(1, laid=("full", "code"), opened=("lock",), late=("free",), taken=("free",))
        for kind in ("wrong", "empty"):
            self.assertIsNone(first_of(book, (), kind))
        book = Book(1, laid=("full", "code", "void", "free"))
        self.assertEqual(first_of(book, (), "two"), [BRING, BRING])
        self.assertEqual(first_of(book, (), "refused"), [BRING, code(1)])

    def test_a_first_fault_is_one_of_the_kinds(self):
        for care in CARES:
            for book in (GOOD, Book(1), GOOD.with_rule("late", ("void",)), GOOD.with_rule("given", ("full",))):
                found = [first_of(book, care, kind) for kind in KINDS]
                least = min([len(deeds) for deeds in found if deeds is not None], default=None)
                first = first_fault(book, care)
                self.assertEqual(least, None if first is None else len(first))
                for kind, deeds in zip(KINDS, found):
                    if deeds is not None:
                        self.check_list(book, care, deeds, len(deeds), kind)


class NewListsTest(Checked):
    def test_lists_are_new(self):
        for function in (first_fault, lambda book, care: first_of(book, care, "empty"), idle):
            one = function(GOOD, ("bare",))
            before = copy.copy(one)
            one.append("more")
            self.assertEqual(function(GOOD, ("bare",)), before)

    def test_a_found_list_may_be_passed_on(self):
        book = GOOD.with_days(30).with_rule("late", ("free",))
        self.assertEqual(faults(book, first_fault(book, ())), [("two", 31)])

    def test_who_was_served_finds_nothing_wrong_with_an_empty_box(self):
        # The last parcel may be one that was taken, or one that was never laid in; its code is sent in either case.
        for laid, taken in ((("look", "code"), ("void",)), (("look",), ())):
            book = Book(1, laid=laid, taken=taken, power=("code", "full"))
            self.check_first(book, ("bare", "power"), 4, "empty")
            self.assertIsNone(first_of(book, ("power",), "empty"))
        book = Book(1, laid=("full", "code"), opened=("look",))
        self.check_list(book, ("bare", "twice"), first_of(book, ("bare", "twice"), "wrong"), 5, "wrong")
        book = Book(1, laid=("full",), left=("void",), late=("code", "free"))
        for kind, many in (("two", 2), ("empty", 3), ("wrong", 4), ("refused", 4)):
            self.check_list(book, ("ajar", "bare"), first_of(book, ("ajar", "bare"), kind), many, kind)

    def test_arguments_stay_as_they_were(self):
        book = GOOD.with_days(5)
        first_fault(book, ALL_CARE)
        first_of(book, ALL_CARE, "two")
        idle(book, ALL_CARE)
        fewest_taken(book, Book(1), ALL_CARE)
        self.assertEqual(book, GOOD.with_days(5))
        self.assertEqual(ALL_CARE, ("ajar", "bare", "power", "stranger", "twice"))


class WrongArgumentsTest(unittest.TestCase):
    def test_no_care(self):
        for value in NO_CARES:
            for function in (first_fault, is_right, idle):
                with self.subTest(value=value), self.assertRaises(NoCare):
                    function(GOOD, value)
            with self.subTest(value=value), self.assertRaises(NoCare):
                first_of(GOOD, value, "two")
            with self.subTest(value=value), self.assertRaises(NoCare):
                fewest_taken(GOOD, GOOD, value)

    def test_each_care_is_one(self):
        for care in CARES:
            for turned in (care, care[::-1]):
                self.assertIsInstance(is_right(GOOD, turned), bool)

    def test_no_kind(self):
        for value in all_but(KINDS) + ["Two", "two ", ("two",), ["two"], "fault", "ajar", 0, True]:
            with self.subTest(value=value), self.assertRaises(NoKind):
                first_of(GOOD, (), value)

    def test_care_is_checked_before_kind(self):
        for value in ODD:
            with self.assertRaises(NoCare):
                first_of(GOOD, ("two",), value)
