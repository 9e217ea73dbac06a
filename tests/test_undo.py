"""[19]: what an undo takes back."""

import unittest

from lockerwall.books import Book
from lockerwall.errors import NoBox, NoDeed, NoParcel, NoSize, NothingToUndo, WallError
from lockerwall.walls import Wall
from tests.slow_wall import picture_of
from tests.test_walls import FREE, MANY, SIMPLE
from tests.values import GOOD


def nothing_left(case, wall):
    """Check that an undo raises NothingToUndo, and that it does so again."""
    for _ in range(2):
        before = picture_of(wall)
        case.assertRaises(NothingToUndo, wall.undo)
        case.assertEqual(picture_of(wall), before)


class UndoTest(unittest.TestCase):
    def check_back(self, wall, calls):
        """Do calls and take them back one by one, twice; each undo shows what stood there before the call."""
        for _ in range(2):
            pictures, told = [], []
            for call in calls:
                pictures.append(picture_of(wall))
                told.append(call(wall))
            again = []
            for picture, call in zip(pictures[::-1], calls[::-1]):
                self.assertIsNone(wall.undo())
                self.assertEqual(picture_of(wall), picture)
                again.append(call(wall))
                self.assertIsNone(wall.undo())
                self.assertEqual(picture_of(wall), picture)
            self.assertEqual(again, told[::-1])

    def test_nothing_to_undo_at_the_beginning(self):
        nothing_left(self, Wall(GOOD, (1, 2, 3)))

    def test_each_call_taken_back(self):
        calls = [
            lambda wall: wall.bring(1, True, True), lambda wall: wall.bring(2, True, False),
            lambda wall: wall.day(), lambda wall: wall.pass_by(1), lambda wall: wall.code(1, False, False),
            lambda wall: wall.power(), lambda wall: wall.change(GOOD), lambda wall: wall.bring(2, True, True),
            lambda wall: wall.code(3, True, True), lambda wall: wall.day(), lambda wall: wall.day(),
            lambda wall: wall.change(SIMPLE), lambda wall: wall.pass_by(0), lambda wall: wall.bring(1, True, True),
            lambda wall: wall.code(1, True, True), lambda wall: wall.power(),
        ]
        wall = Wall(MANY.with_days(2), (1, 2))
        self.check_back(wall, calls)
        self.assertEqual(picture_of(wall), ([FREE, FREE], 0, [], MANY.with_days(2)))
        nothing_left(self, wall)

    def test_each_kind_of_call_alone(self):
        for call in (lambda wall: wall.bring(1, True, True), lambda wall: wall.code(1, True, True),
                     lambda wall: wall.code(3, True, False), lambda wall: wall.pass_by(0), lambda wall: wall.pass_by(1),
                     lambda wall: wall.day(), lambda wall: wall.power(), lambda wall: wall.change(GOOD),
                     lambda wall: wall.change(MANY), lambda wall: setattr(wall, "book", SIMPLE)):
            wall = Wall(MANY, (1, 2))
            wall.bring(1, True, False)
            wall.bring(2, True, True)
            wall.bring(9, True, True)
            self.check_back(wall, [call])
            self.assertEqual(wall.parcels, 3)
            for parcels in (2, 1, 0):
                wall.undo()
                self.assertEqual(wall.parcels, parcels)
            nothing_left(self, wall)

    def test_a_parcel_without_a_box_is_taken_back(self):
        wall = Wall(SIMPLE, (1,))
        self.assertEqual(wall.bring(2, True, True), (1, None, []))
        wall.undo()
        self.assertRaises(NoParcel, wall.code, 1, True, True)
        self.assertEqual(wall.bring(1, True, True), (1, 0, [1]))

    def test_numbers_are_given_again(self):
        wall = Wall(MANY, (1, 2))
        wall.bring(1, True, True)
        wall.bring(2, True, True)
        wall.undo()
        self.assertEqual(wall.bring(1, True, True), (2, 0, [2]))
        self.assertEqual(wall.bring(2, True, True), (3, 1, [3]))
        wall.undo()
        wall.undo()
        wall.undo()
        self.assertEqual(wall.bring(2, False, True), (1, 1, [1]))
        self.assertRaises(NoParcel, wall.code, 2, True, True)

    def test_calls_that_change_nothing_are_taken_back_too(self):
        wall = Wall(SIMPLE, (1,))
        wall.bring(1, True, True)
        wall.code(1, True, True)
        wall.pass_by(0)
        wall.change(SIMPLE)
        wall.power()
        for _ in range(3):
            wall.undo()
            self.assertEqual(wall.lying, 0)
        wall.undo()
        self.assertEqual(wall.lying, 1)
        wall.undo()
        self.assertEqual(wall.lying, 0)
        nothing_left(self, wall)

    def test_errors_change_nothing_and_are_not_taken_back(self):
        wall = Wall(SIMPLE, (1,))
        wall.bring(1, True, True)
        wall.day()
        before = picture_of(wall)
        wrong = [lambda: wall.bring(0, True, True), lambda: wall.bring(1, 1, True), lambda: wall.bring(1, True, None),
                 lambda: wall.code(2, True, True), lambda: wall.code(1, True, 0), lambda: wall.code(1, "x", True),
                 lambda: wall.pass_by(1), lambda: wall.pass_by(True), lambda: wall.box(-1)]
        errors = []
        for call in wrong:
            with self.assertRaises(WallError) as caught:
                call()
            errors.append(type(caught.exception))
            self.assertEqual(picture_of(wall), before)
        self.assertEqual(errors, [NoSize, NoDeed, NoDeed, NoParcel, NoDeed, NoDeed, NoBox, NoBox, NoBox])
        wall.undo()
        self.assertEqual(wall.box(0), (False, [1], "full", [1], 0))
        wall.undo()
        self.assertEqual(wall.box(0), FREE)
        nothing_left(self, wall)

    def test_asking_is_not_taken_back(self):
        wall = Wall(SIMPLE, (1, 1))
        wall.bring(1, True, True)
        picture_of(wall)
        self.assertTrue(1 in wall and len(wall) == 2 and wall.parcels == wall.lying == 1 and wall.book == SIMPLE)
        wall.undo()
        self.assertEqual(wall.parcels, 0)
        nothing_left(self, wall)

    def test_an_undo_is_not_taken_back(self):
        wall = Wall(SIMPLE, (1, 1))
        wall.bring(1, True, True)
        wall.bring(1, True, True)
        wall.undo()
        wall.undo()
        self.assertEqual(wall.parcels, 0)
        nothing_left(self, wall)

    def test_what_a_later_call_does_is_not_seen_behind_an_undo(self):
        # The valid codes, the days and the last parcel come back with the box.
        wall = Wall(MANY.with_days(2), (1,))
        wall.bring(1, True, True)
        wall.day()
        wall.bring(1, True, True)
        wall.change(MANY.with_rule("power", ("void", "off")))
        wall.power()
        for _ in range(3):
            wall.undo()
        self.assertEqual(wall.box(0), (False, [1], "free", [1], 1))
        self.assertEqual(wall.power(), [1])
        self.assertEqual(wall.day(), [1])

    def test_a_change_to_a_book_of_other_days(self):
        for days in (1, 2, 4, 30):
            wall = Wall(MANY.with_days(3), (1,))
            wall.bring(1, True, True)
            wall.day()
            wall.day()
            for change in (wall.change, lambda book: setattr(wall, "book", book)):
                change(MANY.with_days(days))
                self.assertEqual(wall.book.days(), days)
                self.assertEqual(wall.box(0)[4], 2)
                self.assertEqual([wall.day(), wall.day()], [[], [1] if days == 4 else []])
                wall.undo()
                wall.undo()
                self.assertEqual(wall.book.days(), days)
                wall.undo()
                self.assertEqual(wall.book, MANY.with_days(3))
                self.assertEqual(wall.box(0)[4], 2)
                self.assertEqual(wall.day(), [1])
                wall.undo()

    def test_many_calls(self):
        wall = Wall(Book(30, given=("off",), late=("free",)), (3,) * 12)
        for call in range(190):
            wall.day() if call % 3 else wall.bring(3, True, True)
        for _ in range(190):
            wall.undo()
        self.assertEqual(picture_of(wall)[:3], ([FREE] * 12, 0, []))
        nothing_left(self, wall)


if __name__ == "__main__":
    unittest.main()
