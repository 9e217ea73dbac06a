"""[6] to [9] and [11]: what deeds do, reports, how the box stands."""

import copy
import unittest

from lockerwall.books import Book
from lockerwall.errors import NoDeed, NoParcel
from lockerwall.plays import boxes, faults, play
from tests.values import GOOD, ODD, same

BRING = ("bring", True, True)
BARE = ("bring", False, True)
LEFT = ("bring", True, False)
DAY, POWER, PASS = ("day",), ("power",), ("pass",)
AWAY = ([], False, [])
FULL_WITH_CODE = Book(2, given=("full",), laid=("code",))


def code(parcel, takes=True, shuts=True):
    return ("code", parcel, takes, shuts)


class ExampleTest(unittest.TestCase):
    deeds = [BRING, code(1, False), LEFT, code(1)]

    def test_play(self):
        self.assertEqual(play(GOOD, self.deeds), [([1], True, []), ([], True, []), ([2], True, []), ([], False, [])])

    def test_faults(self):
        self.assertEqual(faults(GOOD, self.deeds), [("two", 2), ("refused", 3)])

    def test_boxes(self):
        self.assertEqual(boxes(GOOD, self.deeds), (False, [1, 2], "full", [2], 0))

    def test_by_name(self):
        self.assertEqual(play(deeds=self.deeds, book=GOOD), play(GOOD, self.deeds))
        self.assertEqual(faults(deeds=self.deeds, book=GOOD), faults(GOOD, self.deeds))
        self.assertEqual(boxes(deeds=self.deeds, book=GOOD), boxes(GOOD, self.deeds))


class BeginningTest(unittest.TestCase):
    def test_no_deeds(self):
        for days in (1, 30):
            self.assertEqual(play(Book(days), []), [])
            self.assertEqual(faults(Book(days), []), [])
            self.assertEqual(boxes(Book(days), []), (False, [], "free", [], None))

    def test_kinds_of_values(self):
        reports = play(GOOD, [BRING, code(1)])
        self.assertEqual([type(report) for report in reports], [tuple, tuple])
        for letters, opened, got in reports:
            self.assertEqual((type(letters), type(opened), type(got)), (list, bool, list))
        stands = boxes(GOOD, [BRING])
        self.assertEqual([type(part) for part in stands], [bool, list, str, list, int])


class BringTest(unittest.TestCase):
    def test_lays_and_shuts(self):
        self.assertEqual(boxes(Book(1, laid=("full",), left=("off",)), [BRING]), (False, [1], "full", [], 0))

    def test_lays_and_leaves(self):
        self.assertEqual(boxes(Book(1, laid=("full",), left=("off",)), [LEFT]), (True, [1], "off", [], 0))

    def test_lays_nothing(self):
        self.assertEqual(boxes(Book(1, laid=("full",)), [BARE]), (False, [], "full", [], 0))
        self.assertEqual(boxes(Book(1, left=("off",)), [("bring", False, False)]), (True, [], "off", [], 0))

    def test_is_sent_away(self):
        for word in ("full", "off"):
            book = Book(2, given=(word,), laid=("code",))
            after = boxes(book, [BRING, DAY])
            self.assertEqual(play(book, [BRING, DAY, LEFT])[2], AWAY)
            self.assertEqual(boxes(book, [BRING, DAY, LEFT]), after)

    def test_who_is_sent_away_has_a_number(self):
        book = Book(2, given=("full",), laid=("code",), taken=("free",))
        deeds = [BRING, BRING, code(2), code(1), BRING, code(3)]
        self.assertEqual(play(book, deeds), [([1], True, []), AWAY, AWAY, ([], True, [1]), ([3], True, []),
                                             ([], True, [3])])

    def test_given_locks(self):
        book = Book(2, given=("full", "lock", "code"), laid=("off",), left=("off",))
        for deed in (BRING, LEFT, BARE):
            self.assertEqual(play(book, [deed]), [([1], True, [])])
            self.assertEqual(boxes(book, [deed]), (False, [], "full", [1], 0))

    def test_left_locks(self):
        self.assertEqual(boxes(Book(2, left=("lock", "look")), [LEFT]), (False, [1], "full", [], 0))

    def test_laid_is_carried_out_behind_the_shut_door(self):
        book = Book(2, laid=("full", "code"), opened=("free",))
        self.assertEqual(play(book, [BRING, code(1), BRING]), [([1], True, []), ([], True, [1]), ([2], True, [])])

    def test_given_comes_before_the_parcel_lies(self):
        self.assertEqual(boxes(Book(2, given=("full", "look")), [BRING])[2], "free")
        self.assertEqual(boxes(Book(2, laid=("look",)), [BRING])[2], "full")
        self.assertEqual(boxes(Book(2, laid=("look",)), [BARE])[2], "free")

    def test_a_second_parcel_is_laid_to_the_first(self):
        self.assertEqual(boxes(Book(2), [BRING, BRING, BRING]), (False, [1, 2, 3], "free", [], 0))

    def test_bring_opens_the_door_of_a_box_that_was_left(self):
        self.assertEqual(boxes(Book(2), [LEFT, BRING])[0], False)
        self.assertEqual(boxes(Book(2), [BRING, LEFT])[0], True)


class CodeTest(unittest.TestCase):
    book = Book(2, given=("full",), laid=("code",), opened=("look",), taken=("free",), gone=("off",))

    def test_takes_and_shuts(self):
        self.assertEqual(play(self.book, [BRING, code(1)])[1], ([], True, [1]))
        self.assertEqual(boxes(self.book, [BRING, code(1)]), (False, [], "free", [1], 0))

    def test_takes_and_leaves(self):
        self.assertEqual(boxes(self.book, [BRING, code(1, True, False)]), (True, [], "off", [1], 0))

    def test_takes_not(self):
        self.assertEqual(play(self.book, [BRING, code(1, False)])[1], ([], True, []))
        self.assertEqual(boxes(self.book, [BRING, code(1, False)]), (False, [1], "free", [1], 0))
        self.assertEqual(boxes(self.book, [BRING, code(1, False, False)]), (True, [1], "off", [1], 0))

    def test_refused(self):
        book = Book(2, given=("full",), laid=("code", "void"), opened=("off",))
        self.assertEqual(play(book, [BRING, code(1)]), [([1], True, []), AWAY])
        self.assertEqual(boxes(book, [BRING, code(1)]), (False, [1], "full", [], 0))

    def test_refused_at_an_open_door(self):
        book = Book(2, left=("full",))
        self.assertEqual(play(book, [LEFT, code(1)])[1], AWAY)
        self.assertEqual(boxes(book, [LEFT, code(1)]), (True, [1], "full", [], 0))

    def test_opened_locks(self):
        book = FULL_WITH_CODE.with_rule("opened", ("lock",)).with_rule("taken", ("off",)).with_rule("gone", ("off",))
        for deed in (code(1), code(1, True, False), code(1, False)):
            self.assertEqual(play(book, [BRING, deed])[1], ([], True, []))
            self.assertEqual(boxes(book, [BRING, deed]), (False, [1], "full", [1], 0))

    def test_opened_makes_the_code_invalid(self):
        book = FULL_WITH_CODE.with_rule("opened", ("void",))
        self.assertEqual(play(book, [BRING, code(1), code(1)])[1:], [([], True, [1]), AWAY])

    def test_opened_comes_before_taking(self):
        self.assertEqual(boxes(FULL_WITH_CODE.with_rule("opened", ("look",)), [BRING, code(1)])[2], "full")
        self.assertEqual(boxes(FULL_WITH_CODE.with_rule("taken", ("look",)), [BRING, code(1)])[2], "free")

    def test_gone_locks(self):
        book = FULL_WITH_CODE.with_rule("gone", ("lock", "look"))
        self.assertEqual(boxes(book, [BRING, code(1, False, False)]), (False, [1], "full", [1], 0))

    def test_takes_all_in_ascending_order(self):
        book = Book(2, laid=("full", "code", "free"))
        deeds = [BRING] * 11 + [code(10)]
        self.assertEqual(play(book, deeds)[-1], ([], True, list(range(1, 12))))
        self.assertEqual(boxes(book, deeds), (False, [], "free", list(range(1, 12)), 0))

    def test_the_same_code_again(self):
        self.assertEqual(play(FULL_WITH_CODE, [BRING, code(1), code(1)])[2], ([], True, []))

    def test_an_earlier_code_stays_valid(self):
        book = Book(2, given=("full",), laid=("code",), taken=("free",))
        deeds = [BRING, code(1), BRING, code(1)]
        self.assertEqual(play(book, deeds)[3], ([], True, [2]))
        self.assertEqual(boxes(book, deeds), (False, [], "free", [1, 2], 0))


class StrangerTest(unittest.TestCase):
    def test_open_door(self):
        book = Book(2, given=("full",))
        self.assertEqual(play(book, [LEFT, PASS, PASS]), [([], True, []), ([], False, [1]), AWAY])
        self.assertEqual(boxes(book, [LEFT, PASS]), (True, [], "full", [], 0))

    def test_shut_door(self):
        self.assertEqual(play(Book(2), [PASS, BRING, PASS])[2], AWAY)
        self.assertEqual(boxes(Book(2), [BRING, PASS]), (False, [1], "free", [], 0))

    def test_takes_all(self):
        self.assertEqual(play(Book(2), [BRING, BRING, LEFT, PASS])[3], ([], False, [1, 2, 3]))


class DayTest(unittest.TestCase):
    def test_never_given(self):
        book = Book(1, late=("off",))
        self.assertEqual(boxes(book, [DAY] * 200), (False, [], "free", [], None))
        self.assertEqual(play(book, [DAY]), [AWAY])

    def test_the_number_is_reached_once(self):
        for days in range(1, 31):
            book = Book(days, given=("full",), late=("code",), power=("void",))
            deeds = [BRING] + [DAY] * (days + 40)
            wanted = [([1], False, []) if at == days else AWAY for at in range(1, days + 41)]
            self.assertEqual(play(book, deeds)[1:], wanted)
            self.assertEqual(boxes(book, deeds), (False, [1], "full", [1], days + 40))
            self.assertEqual(boxes(book, deeds[:days]), (False, [1], "full", [], days - 1))

    def test_days_before_the_box_is_given_do_not_count(self):
        book = Book(2, late=("off",))
        self.assertEqual(boxes(book, [DAY, DAY, DAY, BRING, DAY])[2:], ("free", [], 1))
        self.assertEqual(boxes(book, [DAY, DAY, DAY, BRING, DAY, DAY])[2:], ("off", [], 2))

    def test_giving_again_begins_anew(self):
        book = Book(3, late=("off",))
        self.assertEqual(boxes(book, [BRING, DAY, DAY, BRING])[4], 0)
        self.assertEqual(boxes(book, [BRING, DAY, DAY, BRING, DAY, DAY])[2:], ("free", [], 2))
        self.assertEqual(boxes(book, [BRING, DAY, DAY, BRING, DAY, DAY, DAY])[2:], ("off", [], 3))

    def test_giving_again_lets_late_come_again(self):
        book = Book(1, given=("full",), late=("code", "free"))
        self.assertEqual(play(book, [BRING, DAY, DAY, BARE, DAY]), [
            ([], True, []), ([1], False, []), AWAY, ([], True, []), ([2], False, [])])

    def test_who_is_sent_away_does_not_change_the_days(self):
        book = Book(2, given=("off",), late=("full", "code"))
        self.assertEqual(play(book, [BRING, DAY, BRING, DAY])[3], ([1], False, []))

    def test_codes_do_not_change_the_days(self):
        self.assertEqual(boxes(FULL_WITH_CODE, [BRING, DAY, code(1), DAY, DAY])[4], 3)


class PowerTest(unittest.TestCase):
    def test_before_the_box_is_given(self):
        book = Book(1, power=("full", "code", "look", "void", "off"))
        self.assertEqual(play(book, [POWER]), [AWAY])
        self.assertEqual(boxes(book, [POWER]), (False, [], "off", [], None))

    def test_locks_an_open_door(self):
        self.assertEqual(boxes(Book(1, power=("lock",)), [LEFT, POWER])[0], False)

    def test_leaves_the_door_as_it_is(self):
        self.assertEqual(boxes(Book(1, power=("look",)), [LEFT, POWER]), (True, [1], "full", [], 0))

    def test_sends_a_letter(self):
        book = Book(1, given=("full",), power=("code",))
        self.assertEqual(play(book, [BRING, POWER, POWER])[1:], [([1], False, []), ([1], False, [])])


class ActionTest(unittest.TestCase):
    def test_free_full_off(self):
        for word in ("free", "full", "off"):
            for before in ("free", "full", "off"):
                self.assertEqual(boxes(Book(1, power=(before, word)), [POWER])[2], word)

    def test_code_needs_full(self):
        for word in ("free", "off"):
            self.assertEqual(play(Book(1, laid=(word, "code")), [BRING]), [([], True, [])])
            self.assertEqual(boxes(Book(1, laid=(word, "code")), [BRING])[3], [])
        self.assertEqual(play(Book(1, laid=("code", "full", "code", "free", "code")), [BRING]), [([1], True, [])])

    def test_code_is_for_the_last_parcel(self):
        book = Book(1, laid=("full", "code", "free"))
        self.assertEqual(play(book, [BRING, BRING]), [([1], True, []), ([2], True, [])])
        self.assertEqual(boxes(book, [BRING, BRING])[3], [1, 2])

    def test_code_in_given_is_for_the_new_parcel(self):
        book = Book(1, given=("full", "code", "free"))
        self.assertEqual([letters for letters, _, _ in play(book, [BRING, BRING])], [[1], [2]])

    def test_letters_once_for_each_time(self):
        book = Book(1, given=("full", "code", "code"), laid=("code", "void", "code", "free"))
        self.assertEqual(play(book, [BRING, BRING]), [([1] * 4, True, []), ([2] * 4, True, [])])

    def test_full_before_giving_sends_nothing(self):
        book = Book(1, given=("full", "code"), power=("full", "code", "free", "full", "code", "free"))
        self.assertEqual(play(book, [POWER, BRING]), [AWAY, ([1], True, [])])

    def test_void_makes_all_invalid(self):
        book = Book(1, laid=("full", "code", "free"), power=("void",))
        self.assertEqual(boxes(book, [BRING] * 3)[3], [1, 2, 3])
        self.assertEqual(boxes(book, [BRING] * 3 + [POWER])[3], [])

    def test_valid_invalid_and_valid_again(self):
        book = Book(1, given=("full",), laid=("code",), late=("void",), power=("code",))
        deeds = [BRING, DAY, code(1), POWER, code(1)]
        self.assertEqual(play(book, deeds), [([1], True, []), AWAY, AWAY, ([1], False, []), ([], True, [1])])

    def test_look(self):
        book = Book(1, given=("off",), left=("off",), power=("look",))
        self.assertEqual(boxes(book, [POWER])[2], "free")
        self.assertEqual(boxes(book, [BRING, POWER])[2], "full")
        self.assertEqual(boxes(book, [BARE, POWER])[2], "free")
        self.assertEqual(boxes(book, [LEFT, PASS, POWER])[2], "free")

    def test_lock_in_the_middle_of_a_rule(self):
        book = Book(1, given=("full", "lock", "code", "off", "void", "free"))
        self.assertEqual(play(book, [BRING]), [([1], True, [])])
        self.assertEqual(boxes(book, [BRING]), (False, [], "free", [], 0))

    def test_six_actions_in_order(self):
        book = Book(1, power=("off", "look", "full", "void", "lock", "free"))
        self.assertEqual(boxes(book, [LEFT, POWER]), (False, [1], "free", [], 0))


class LimitsTest(unittest.TestCase):
    def test_200_deeds(self):
        reports = play(GOOD, [BRING, code(1)] + [BRING, DAY] * 99)
        self.assertEqual(len(reports), 200)
        deeds = [deed for parcel in range(1, 101) for deed in (BRING, code(parcel))]
        self.assertEqual(play(GOOD, deeds)[198:], [([100], True, []), ([], True, [100])])
        self.assertEqual(faults(GOOD, deeds), [])
        self.assertEqual(boxes(GOOD, deeds), (False, [], "free", [100], 0))

    def test_lists_longer_than_200(self):
        self.assertEqual(len(play(GOOD, [BRING] + [DAY] * 500)), 501)
        self.assertEqual(boxes(GOOD, [BRING] + [DAY] * 500)[4], 500)

    def test_200_parcels_in_a_box(self):
        self.assertEqual(boxes(Book(1), [BRING] * 200)[1], list(range(1, 201)))


class WrongDeedsTest(unittest.TestCase):
    wrong = [odd for odd in ODD if not same(odd, ("day",))] + [
        (), ("bring",), ("bring", True), ("bring", True, True, True), ("bring", 1, True), ("bring", True, 0),
        ("bring", None, True), ("bring", True, "x"), ("bring", [], True), ["bring", True, True], ("code",),
        ("code", 1), ("code", 1, True), ("code", 1, True, True, True), ("code", 0, True, True), ("code", -1, True, True),
        ("code", True, True, True), ("code", False, True, True), ("code", 10 ** 9 + 1, True, True),
        ("code", 1.0, True, True), ("code", "1", True, True), ("code", None, True, True), ("code", [1], True, True),
        ("code", 1, 1, True), ("code", 1, True, 0), ("code", 1, None, True), ("pass", True), ("day", 1), ("power", ()),
        ("Day",), ("days",), ("",), (None,), (1,), (True,), (["day"],), (("day",),), "day", ["day"], {"day"},
        ("day", "day"), (b"day",), ("free",)]

    def raised(self, error, deeds):
        indexes = []
        for function in (play, faults, boxes):
            with self.assertRaises(error) as caught:
                function(GOOD, deeds)
            indexes.append(caught.exception.index if error is NoDeed else caught.exception.number)
        self.assertEqual(len(set(indexes)), 1)
        return indexes[0]

    def test_no_list(self):
        for value in ODD:
            if not isinstance(value, list):
                with self.subTest(value=value):
                    self.assertEqual(self.raised(NoDeed, value), 0)
        self.assertEqual(self.raised(NoDeed, (BRING, DAY)), 0)

    def test_no_deed(self):
        for value in self.wrong:
            with self.subTest(value=value):
                self.assertEqual(self.raised(NoDeed, [value]), 0)
                self.assertEqual(self.raised(NoDeed, [BRING, DAY, value, value, BRING]), 2)

    def test_no_deed_at_the_end_of_200(self):
        self.assertEqual(self.raised(NoDeed, [DAY] * 199 + [None]), 199)

    def test_parcels(self):
        self.assertEqual(self.raised(NoParcel, [code(1)]), 0)
        self.assertEqual(self.raised(NoParcel, [code(10 ** 9)]), 0)
        self.assertEqual(self.raised(NoParcel, [BRING, code(1), code(2)]), 2)
        self.assertEqual(self.raised(NoParcel, [BRING, code(2), BRING]), 1)
        self.assertEqual(self.raised(NoParcel, [BRING, code(1), DAY, code(10 ** 9), code(3)]), 3)
        self.assertEqual(self.raised(NoDeed, [BRING, code(10 ** 9 + 1)]), 1)

    def test_parcels_of_those_who_were_sent_away(self):
        self.assertEqual(play(Book(1, given=("full",)), [BRING, BRING, code(2)])[2], AWAY)
        self.assertEqual(self.raised(NoParcel, [BRING, BRING, code(3)]), 2)

    def test_deeds_are_checked_before_parcels(self):
        self.assertEqual(self.raised(NoDeed, [code(1), code(7), None]), 2)
        self.assertEqual(self.raised(NoDeed, [code(1), ("code", True, True, True)]), 1)


class NewListsTest(unittest.TestCase):
    def test_arguments_stay_as_they_were(self):
        deeds = [BRING, DAY, code(1, False, False), PASS, POWER, BRING]
        before = copy.deepcopy(deeds)
        for function in (play, faults, boxes):
            function(GOOD, deeds)
            self.assertEqual(deeds, before)
        self.assertEqual(GOOD.days(), 3)

    def test_lists_are_new(self):
        deeds = [BRING, BRING, LEFT, code(3), LEFT, PASS]
        book = Book(1, laid=("full", "code", "free"), left=("full", "code", "free"))
        found = []
        for _ in range(2):
            reports = play(book, deeds)
            found += [reports, faults(book, deeds)]
            found += [part for letters, _, got in reports for part in (letters, got)]
            found += [boxes(book, deeds[:3])[1], boxes(book, deeds[:3])[3]]
        self.assertEqual(len({id(one) for one in found}), len(found))
        before = copy.deepcopy(found)
        for one in found:
            one.append("more")
        again = play(book, deeds)
        self.assertEqual(again, before[0])
        self.assertEqual(faults(book, deeds), before[1])
        self.assertEqual(boxes(book, deeds[:3])[1], before[-2])


if __name__ == "__main__":
    unittest.main()
