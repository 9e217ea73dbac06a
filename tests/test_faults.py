"""[10]: what goes wrong."""

import unittest

from lockerwall.books import Book
from lockerwall.plays import boxes, faults, play
from tests.values import GOOD

BRING = ("bring", True, True)
BARE = ("bring", False, True)
LEFT = ("bring", True, False)
DAY, POWER, PASS = ("day",), ("power",), ("pass",)
OPEN_TO_ALL = Book(2, laid=("full", "code", "free"), left=("full", "code", "free"))


def code(parcel, takes=True, shuts=True):
    return ("code", parcel, takes, shuts)


class TwoTest(unittest.TestCase):
    def test_two_parcels(self):
        self.assertEqual(faults(Book(2), [BRING, BRING, LEFT]), [("two", 1), ("two", 2)])

    def test_nothing_laid(self):
        self.assertEqual(faults(Book(2), [BRING, BARE, BARE]), [])
        self.assertEqual(faults(Book(2), [BARE, BRING]), [])

    def test_sent_away(self):
        self.assertEqual(faults(Book(2, given=("full",)), [BRING, BRING]), [])

    def test_given_locks(self):
        self.assertEqual(faults(Book(2, given=("lock",)), [BRING, BRING]), [])

    def test_behind_one_who_took(self):
        self.assertEqual(faults(OPEN_TO_ALL, [BRING, code(1), BRING]), [])
        self.assertEqual(faults(OPEN_TO_ALL, [BRING, code(1, False), BRING]), [("two", 2)])


class WrongTest(unittest.TestCase):
    def test_stranger(self):
        self.assertEqual(faults(Book(2), [LEFT, PASS, PASS]), [("wrong", 1)])
        self.assertEqual(faults(Book(2), [BRING, PASS]), [])
        self.assertEqual(faults(Book(2), [("bring", False, False), PASS]), [])

    def test_stranger_behind_a_person_who_leaves_it_open(self):
        self.assertEqual(faults(OPEN_TO_ALL, [BRING, code(1, False, False), PASS]), [("wrong", 2)])
        self.assertEqual(faults(OPEN_TO_ALL, [BRING, code(1, True, False), PASS]), [])

    def test_a_person_with_another_parcel(self):
        self.assertEqual(faults(OPEN_TO_ALL, [BRING, code(1), BRING, code(1)]), [("wrong", 3)])
        self.assertEqual(faults(OPEN_TO_ALL, [BRING, code(1), BRING, code(1, False)]), [])

    def test_once_for_several_parcels(self):
        self.assertEqual(faults(OPEN_TO_ALL, [BRING, BRING, BRING, code(2)]), [("two", 1), ("two", 2), ("wrong", 3)])

    def test_own_parcel_among_them(self):
        self.assertEqual(faults(OPEN_TO_ALL, [BRING, BRING, code(2)]), [("two", 1), ("wrong", 2)])
        self.assertEqual(faults(OPEN_TO_ALL, [BRING, BRING, code(2), code(2)]), [("two", 1), ("wrong", 2)])


class EmptyTest(unittest.TestCase):
    def test_nothing_laid(self):
        self.assertEqual(faults(OPEN_TO_ALL, [BARE, code(1)]), [("empty", 1)])
        self.assertEqual(faults(OPEN_TO_ALL, [BARE, code(1, False), code(1)]), [("empty", 1), ("empty", 2)])

    def test_again_behind_taking(self):
        self.assertEqual(faults(OPEN_TO_ALL, [BRING, code(1), code(1), code(1)]), [])

    def test_a_stranger_took_it(self):
        self.assertEqual(faults(OPEN_TO_ALL, [LEFT, PASS, code(1), code(1)]), [("wrong", 1), ("empty", 2), ("empty", 3)])

    def test_another_person_took_it(self):
        self.assertEqual(faults(OPEN_TO_ALL, [BRING, BRING, code(1), code(2)]), [("two", 1), ("wrong", 2), ("empty", 3)])

    def test_wrong_comes_before_empty(self):
        self.assertEqual(faults(OPEN_TO_ALL, [BARE, BRING, code(1)]), [("wrong", 2), ("empty", 2)])

    def test_the_parcel_lies_there_but_is_not_taken(self):
        self.assertEqual(faults(OPEN_TO_ALL, [BRING, code(1, False)]), [])
        book = OPEN_TO_ALL.with_rule("opened", ("lock",))
        self.assertEqual(faults(book, [BRING, code(1)]), [])
        self.assertEqual(faults(book, [BARE, code(1)]), [("empty", 1)])

    def test_a_code_that_is_not_valid(self):
        self.assertEqual(faults(Book(2), [BARE, code(1)]), [])


class RefusedTest(unittest.TestCase):
    def test_made_invalid(self):
        book = Book(2, given=("full",), laid=("code", "void"))
        self.assertEqual(faults(book, [BRING, code(1), code(1, False)]), [("refused", 1), ("refused", 2)])

    def test_no_letter_was_sent(self):
        self.assertEqual(faults(Book(2), [BRING, code(1)]), [])
        self.assertEqual(faults(Book(2, given=("void",), laid=("code",)), [BRING, code(1)]), [])

    def test_it_does_not_lie_there(self):
        book = Book(2, given=("full",), laid=("code", "void"))
        self.assertEqual(faults(book, [BARE, code(1)]), [])

    def test_behind_a_second_parcel(self):
        book = Book(2, given=("void", "full"), laid=("code", "free"))
        self.assertEqual(faults(book, [BRING, BRING, code(1), code(2)]), [("two", 1), ("refused", 2), ("wrong", 3)])

    def test_behind_the_stranger(self):
        book = Book(2, given=("full",), left=("code", "void"))
        self.assertEqual(faults(book, [LEFT, code(1), PASS, code(1)]), [("refused", 1), ("wrong", 2)])

    def test_valid_invalid_and_valid_again(self):
        book = Book(1, given=("full",), laid=("code",), late=("void",), power=("code",))
        self.assertEqual(faults(book, [BRING, DAY, POWER, code(1)]), [])
        self.assertEqual(faults(book, [BRING, DAY, code(1), POWER, code(1)]), [("refused", 2)])

    def test_who_was_sent_away(self):
        self.assertEqual(faults(Book(2, given=("full",), laid=("code",)), [BRING, BRING, code(2)]), [])


class AllTest(unittest.TestCase):
    def test_no_faults_in_a_good_play(self):
        deeds = [BRING, DAY, code(1), LEFT, DAY, DAY, DAY, DAY, code(2, True, False), PASS, POWER, BRING, code(3)]
        self.assertEqual(faults(GOOD, deeds), [])

    def test_kinds_of_values(self):
        found = faults(OPEN_TO_ALL, [BRING, BRING])
        self.assertIs(type(found), list)
        self.assertEqual([(type(one), type(one[0]), type(one[1])) for one in found], [(tuple, str, int)])

    def test_play_goes_on_behind_faults(self):
        deeds = [BRING, BRING, code(2), BRING]
        self.assertEqual(play(OPEN_TO_ALL, deeds)[3], ([3], True, []))
        self.assertEqual(boxes(OPEN_TO_ALL, deeds)[1], [3])
