"""[4] and [5]: actions, rules, moments, books."""

import unittest

from lockerwall.books import Book
from lockerwall.errors import NoDays, NoMoment, NoMoments, NoRule
from tests.values import ALL_CARE, GOOD, ODD, all_but, same

ACTIONS = ("free", "full", "off", "code", "void", "look", "lock")
MOMENTS = ("given", "laid", "left", "opened", "taken", "gone", "late", "power")
EACH = tuple((action,) for action in ACTIONS) + (ACTIONS[:6],)
NO_RULES = [odd for odd in ODD if not same(odd, ()) and not same(odd, ("free",))] + [
    ["free"], "free", ("free", "Free"), ("free", ["full"]), ("free", None), ("free", True), (0,), (("free",),),
    ACTIONS, ("free",) * 7, ("free",) * 300, ("lock ",), ("",), ("given",), (b"free",), (frozenset(),), ({},)]


class MakingTest(unittest.TestCase):
    def test_days(self):
        for days in range(1, 31):
            self.assertEqual(Book(days).days(), days)
            self.assertIs(type(Book(days).days()), int)

    def test_no_days(self):
        for days in all_but(list(range(1, 31))) + [31, 0, -5, "3", (3,), [3], 3.0, True, False, None]:
            with self.subTest(days=days), self.assertRaises(NoDays):
                Book(days)

    def test_rules_are_none_at_first(self):
        self.assertEqual(Book(1).rules(), ((),) * 8)
        for moment in MOMENTS:
            self.assertEqual(Book(30).rule(moment), ())

    def test_rules_by_position(self):
        book = Book(4, *EACH)
        self.assertEqual(book.rules(), EACH)
        self.assertIs(type(book.rules()), tuple)
        for moment, rule in zip(MOMENTS, EACH):
            self.assertEqual(book.rule(moment), rule)
            self.assertIs(type(book.rule(moment)), tuple)

    def test_rules_by_name(self):
        book = Book(power=EACH[7], late=EACH[6], gone=EACH[5], taken=EACH[4], opened=EACH[3], left=EACH[2],
                    laid=EACH[1], given=EACH[0], days=4)
        self.assertEqual(book.rules(), EACH)
        self.assertEqual(book.rule(moment="left"), EACH[2])

    def test_each_action_and_each_length(self):
        for moment in MOMENTS:
            for action in ACTIONS:
                for length in range(7):
                    rule = (action,) * length
                    self.assertEqual(Book(2, **{moment: rule}).rule(moment), rule)

    def test_no_rule(self):
        for moment in MOMENTS:
            for value in NO_RULES:
                with self.subTest(moment=moment, value=value), self.assertRaises(NoRule) as caught:
                    Book(2, **{moment: value})
                self.assertEqual(caught.exception.moment, moment)

    def test_seven_actions_are_too_many(self):
        self.assertEqual(Book(2, late=("look",) * 6).rule("late"), ("look",) * 6)
        with self.assertRaises(NoRule):
            Book(2, late=("look",) * 7)

    def test_the_first_wrong_moment(self):
        for first in range(8):
            rules = [("free",)] * first + [None] * (8 - first)
            with self.assertRaises(NoRule) as caught:
                Book(2, *rules)
            self.assertEqual(caught.exception.moment, MOMENTS[first])
        with self.assertRaises(NoRule) as caught:
            Book(power=0, late=1, gone=2, days=3)
        self.assertEqual(caught.exception.moment, "gone")

    def test_days_are_checked_before_rules(self):
        with self.assertRaises(NoDays):
            Book(0, given=None)
        with self.assertRaises(NoDays):
            Book(True, given=["free"])


class RuleTest(unittest.TestCase):
    def test_no_moment(self):
        for value in all_but(MOMENTS) + ["GIVEN", "free", "days", ("given",), ["given"], 0, 7]:
            with self.subTest(value=value), self.assertRaises(NoMoment) as caught:
                GOOD.rule(value)
            self.assertIs(caught.exception.moment, value)

    def test_rules_are_those_given(self):
        self.assertEqual(GOOD.rule("given"), ("void", "full"))
        self.assertEqual(GOOD.rule("opened"), ())
        self.assertEqual(GOOD.rules(), (("void", "full"), ("code",), ("lock", "code"), (), ("free",),
                                        ("lock", "look"), (), ()))


class WithRuleTest(unittest.TestCase):
    def test_another_rule(self):
        for at, moment in enumerate(MOMENTS):
            book = GOOD.with_rule(moment, ACTIONS[:6])
            wanted = list(GOOD.rules())
            wanted[at] = ACTIONS[:6]
            self.assertEqual(book.rules(), tuple(wanted))
            self.assertEqual(book.days(), 3)
            self.assertIsInstance(book, Book)
        self.assertEqual(GOOD.rules()[6:], ((), ()))

    def test_by_name(self):
        self.assertEqual(GOOD.with_rule(rule=("off",), moment="late"), GOOD.with_rule("late", ("off",)))

    def test_no_rule(self):
        for value in NO_RULES:
            with self.subTest(value=value), self.assertRaises(NoRule) as caught:
                GOOD.with_rule("gone", value)
            self.assertEqual(caught.exception.moment, "gone")

    def test_no_moment(self):
        for value in all_but(MOMENTS):
            for rule in (("free",), None):
                with self.subTest(value=value), self.assertRaises(NoMoment) as caught:
                    GOOD.with_rule(value, rule)
                self.assertIs(caught.exception.moment, value)


class WithDaysTest(unittest.TestCase):
    def test_another_number(self):
        for days in range(1, 31):
            book = GOOD.with_days(days)
            self.assertEqual((book.days(), book.rules()), (days, GOOD.rules()))
        self.assertEqual(GOOD.days(), 3)
        self.assertEqual(GOOD.with_days(days=7).days(), 7)

    def test_no_days(self):
        for days in all_but(list(range(1, 31))):
            with self.subTest(days=days), self.assertRaises(NoDays):
                GOOD.with_days(days)


class TakingTest(unittest.TestCase):
    other = Book(9, *EACH)

    def test_some_moments(self):
        book = GOOD.taking(self.other, ("power", "laid"))
        self.assertEqual(book, Book(3, ("void", "full"), EACH[1], ("lock", "code"), (), ("free",), ("lock", "look"),
                                    (), EACH[7]))
        self.assertEqual(GOOD.taking(moments=("laid", "power"), good=self.other), book)

    def test_none_and_all(self):
        self.assertEqual(GOOD.taking(self.other, ()), GOOD)
        self.assertEqual(GOOD.taking(self.other, MOMENTS), self.other.with_days(3))
        self.assertEqual(GOOD.taking(self.other, MOMENTS[::-1]), self.other.with_days(3))

    def test_each_one(self):
        for at, moment in enumerate(MOMENTS):
            self.assertEqual(GOOD.taking(self.other, (moment,)), GOOD.with_rule(moment, EACH[at]))

    def test_both_stay_as_they_were(self):
        before = (GOOD.days(), GOOD.rules(), self.other.days(), self.other.rules())
        GOOD.taking(self.other, MOMENTS)
        self.assertEqual((GOOD.days(), GOOD.rules(), self.other.days(), self.other.rules()), before)

    def test_no_moments(self):
        for value in all_but([(), ("given",)]) + ["given", ["given"], MOMENTS + ("given",), ("laid", "late", "laid"),
                                                  ("laid", None), ("laid", ["left"]), ("free",), ALL_CARE]:
            with self.subTest(value=value), self.assertRaises(NoMoments):
                GOOD.taking(self.other, value)


class EqualTest(unittest.TestCase):
    def test_equal(self):
        self.assertTrue(Book(4, *EACH) == Book(4, *EACH))
        self.assertFalse(Book(4, *EACH) != Book(4, *EACH))
        self.assertTrue(Book(1) == Book(1, (), power=()))

    def test_not_equal(self):
        book = Book(4, *EACH)
        self.assertFalse(book == book.with_days(5))
        self.assertTrue(book != book.with_days(5))
        for moment in MOMENTS:
            self.assertFalse(book == book.with_rule(moment, ()))
            self.assertFalse(Book(1, **{moment: ("free", "full")}) == Book(1, **{moment: ("full", "free")}))

    def test_equal_to_nothing_else(self):
        for value in ODD + [(4, EACH), EACH, [4, *EACH]]:
            self.assertFalse(Book(4, *EACH) == value)
            self.assertFalse(value == Book(4, *EACH))
            self.assertTrue(Book(4, *EACH) != value)
