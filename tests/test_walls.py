"""[18] and [19]: a live wall, but for what an undo takes back."""

import unittest

from lockerwall.books import Book
from lockerwall.errors import NoBox, NoDeed, NoParcel, NoSize, NoSizes
from lockerwall.plays import boxes, play
from lockerwall.walls import Wall
from tests.slow_wall import picture_of
from tests.values import GOOD, ODD, all_but, same

FREE = (False, [], "free", [], None)
SIMPLE = Book(2, given=("full",), laid=("code",), taken=("free",))
# It takes many parcels, and the code of each stays valid.
MANY = Book(3, laid=("full", "code", "free"), left=("full", "code", "free"), late=("full", "code"), power=("full", "code"))
NO_TRUTHS = all_but([True, False])


class BeginningTest(unittest.TestCase):
    def test_walls_of_one_box_and_of_twelve(self):
        for sizes in ((1,), (9,), (1, 2), (5,) * 12, (9, 8, 7, 6, 5, 4, 3, 2, 1, 1, 1, 9)):
            wall = Wall(GOOD, sizes)
            self.assertEqual(len(wall), len(sizes))
            self.assertEqual([wall.box(number) for number in range(len(sizes))], [FREE] * len(sizes))
            self.assertEqual((wall.parcels, wall.lying), (0, 0))
            self.assertEqual(wall.book, GOOD)
            self.assertNotIn(1, wall)

    def test_by_name(self):
        wall = Wall(sizes=(3, 4), book=SIMPLE)
        self.assertEqual(wall.bring(shuts=True, lays=True, size=4), (1, 1, [1]))
        self.assertEqual(wall.box(number=1), (False, [1], "full", [1], 0))
        self.assertEqual(wall.code(shuts=False, takes=True, parcel=1), ([], True, [1]))
        self.assertEqual(wall.pass_by(box=1), [])
        self.assertIsNone(wall.change(book=GOOD))
        self.assertEqual(wall.book, GOOD)

    def test_no_sizes(self):
        odd_sizes = [(), (1,) * 13, [1], (0,), (10,), (1, 2, 10), (1, 0), (-1,), (True,), (1, False), (1.0,), ("1",),
                     (None,), ((1,),), ([1],), {1: 2}, {1}, 1, "1", None, range(1, 3), (10 ** 40,), (1, 2, [])]
        for sizes in odd_sizes + all_but([(1,)]):
            with self.assertRaises(NoSizes, msg=sizes):
                Wall(GOOD, sizes)

    def test_walls_stand_apart(self):
        one, other = Wall(SIMPLE, (1, 2)), Wall(SIMPLE, (1, 2))
        one.bring(1, True, True)
        self.assertEqual(picture_of(other), ([FREE, FREE], 0, [], SIMPLE))
        other.day()
        other.undo()
        self.assertEqual(one.parcels, 1)


class BringTest(unittest.TestCase):
    def test_the_least_fitting_box(self):
        wall = Wall(SIMPLE, (5, 3, 9, 3, 4))
        self.assertEqual(wall.bring(2, True, True), (1, 1, [1]))
        self.assertEqual(wall.bring(3, True, True), (2, 3, [2]))
        self.assertEqual(wall.bring(1, True, True), (3, 4, [3]))
        self.assertEqual(wall.bring(4, True, True), (4, 0, [4]))
        self.assertEqual(wall.bring(1, False, True), (5, 2, [5]))
        self.assertEqual(wall.bring(1, True, True), (6, None, []))
        self.assertEqual(wall.code(2, True, True), ([], True, [2]))
        self.assertEqual(wall.bring(3, True, False), (7, 3, []))

    def test_of_equal_sizes_the_first_one(self):
        wall = Wall(SIMPLE, (4,) * 12)
        for parcel in range(1, 13):
            self.assertEqual(wall.bring(4, True, True), (parcel, parcel - 1, [parcel]))
        self.assertEqual(wall.bring(4, True, True), (13, None, []))
        wall.code(8, True, True)
        wall.code(5, True, True)
        self.assertEqual(wall.bring(1, True, True), (14, 4, [14]))
        self.assertEqual(wall.bring(1, True, True), (15, 7, [15]))

    def test_a_size_that_no_box_has(self):
        wall = Wall(SIMPLE, (1, 8))
        self.assertEqual(wall.bring(9, True, True), (1, None, []))
        self.assertEqual(picture_of(wall), ([FREE, FREE], 1, [], SIMPLE))
        for takes in (True, False):
            for shuts in (True, False):
                self.assertEqual(wall.code(1, takes, shuts), ([], False, []))
        self.assertEqual(wall.bring(8, True, True), (2, 1, [2]))
        self.assertEqual(wall.bring(2, True, True), (3, None, []))
        self.assertEqual((wall.parcels, wall.lying), (3, 1))
        self.assertTrue(2 in wall and 1 not in wall and 3 not in wall)

    def test_a_box_that_is_out_of_use(self):
        wall = Wall(Book(1, power=("off",)), (1,))
        self.assertEqual(wall.bring(1, True, True), (1, 0, []))
        wall.power()
        self.assertEqual(wall.bring(1, True, True), (2, None, []))

    def test_a_box_is_given_again_while_a_parcel_lies_in_it(self):
        wall = Wall(MANY, (1, 2))
        self.assertEqual(wall.bring(1, True, True), (1, 0, [1]))
        self.assertEqual(wall.bring(2, True, True), (2, 1, [2]))
        self.assertEqual(wall.bring(1, False, False), (3, 0, [3]))
        self.assertEqual(wall.bring(1, True, True), (4, 0, [4]))
        self.assertEqual(wall.box(0), (False, [1, 4], "free", [1, 3, 4], 0))
        self.assertEqual(wall.code(3, True, False), ([], True, [1, 4]))
        self.assertEqual(wall.box(0), (True, [], "free", [1, 3, 4], 0))

    def test_no_size(self):
        wall = Wall(SIMPLE, (1,))
        for size in [odd for odd in ODD if not any(same(odd, good) for good in range(1, 10))] + ["3", (3,), 4.0]:
            with self.assertRaises(NoSize, msg=size):
                wall.bring(size, True, True)
            with self.assertRaises(NoSize):
                wall.bring(size, None, 1)
        self.assertEqual(wall.parcels, 0)
        for size in range(1, 10):
            wall.bring(size, True, True)

    def test_no_deed(self):
        wall = Wall(SIMPLE, (1,))
        wall.bring(1, True, True)
        for odd in NO_TRUTHS:
            for call in (lambda: wall.bring(1, odd, True), lambda: wall.bring(1, True, odd), lambda: wall.bring(1, odd, odd),
                         lambda: wall.code(1, odd, True), lambda: wall.code(1, False, odd), lambda: wall.code(1, odd, odd)):
                with self.assertRaises(NoDeed) as caught:
                    call()
                self.assertIs(type(caught.exception.index), int)
                self.assertEqual(caught.exception.index, 0)
        self.assertEqual(picture_of(wall), ([(False, [1], "full", [1], 0)], 1, [1], SIMPLE))


class CodeTest(unittest.TestCase):
    def test_reports(self):
        wall = Wall(SIMPLE.with_rule("opened", ("code",)).with_rule("gone", ("void",)), (2, 1))
        wall.bring(2, True, True)
        wall.bring(1, True, True)
        self.assertEqual(wall.code(2, False, False), ([2], True, []))
        self.assertEqual(wall.box(1), (True, [2], "full", [], 0))
        self.assertEqual(wall.code(2, True, True), ([], False, []))
        self.assertEqual(wall.code(1, True, True), ([1], True, [1]))
        self.assertEqual(wall.code(1, True, True), ([], True, []))
        self.assertEqual([type(part) for part in wall.code(1, True, True)], [list, bool, list])

    def test_no_parcel(self):
        wall = Wall(SIMPLE, (1,))
        for odd in ODD:
            with self.assertRaises(NoParcel) as caught:
                wall.code(odd, True, True)
            self.assertIs(caught.exception.number, odd)
        wall.bring(1, True, True)
        wall.bring(1, True, True)
        for odd in all_but([1, 2]) + [3, 0, -1, "1", 1.0, (1,), 10 ** 60]:
            with self.assertRaises(NoParcel) as caught:
                wall.code(odd, True, True)
            self.assertIs(caught.exception.number, odd)
            with self.assertRaises(NoParcel):
                wall.code(odd, 1, None)
        self.assertEqual(wall.code(2, True, True), ([], False, []))
        self.assertEqual(wall.code(1, True, True), ([], True, [1]))


class PassDayPowerTest(unittest.TestCase):
    def test_pass_by(self):
        wall = Wall(MANY, (1, 2))
        wall.bring(1, True, True)
        wall.bring(1, True, False)
        wall.bring(2, True, True)
        self.assertEqual(wall.pass_by(1), [])
        self.assertEqual(wall.pass_by(0), [1, 2])
        self.assertEqual(wall.pass_by(0), [])
        self.assertEqual(wall.lying, 1)

    def test_no_box(self):
        wall = Wall(SIMPLE, (1, 1))
        for odd in all_but([0, 1]) + [2, -1, "0", 1.0, 0.0, (0,), 10 ** 60, True, False]:
            for function in (wall.pass_by, wall.box):
                with self.assertRaises(NoBox) as caught:
                    function(odd)
                self.assertIs(caught.exception.number, odd)
        self.assertEqual(Wall(SIMPLE, (1,) * 12).box(11), FREE)
        with self.assertRaises(NoBox):
            Wall(SIMPLE, (1,) * 12).box(12)

    def test_days(self):
        wall = Wall(MANY.with_days(2), (2, 1, 3))
        self.assertEqual(wall.day(), [])
        wall.bring(3, True, True)
        wall.bring(1, True, True)
        self.assertEqual(wall.day(), [])
        wall.bring(2, True, True)
        self.assertEqual([wall.box(number)[4] for number in range(3)], [0, 1, 1])
        self.assertEqual(wall.day(), [2, 1])
        self.assertEqual(wall.day(), [3])
        self.assertEqual(wall.day(), [])
        self.assertEqual([wall.box(number)[4] for number in range(3)], [3, 4, 4])

    def test_power(self):
        wall = Wall(MANY.with_rule("power", ("full", "code", "code")), (3, 2, 1))
        self.assertEqual(wall.power(), [])
        self.assertEqual([wall.box(number)[2] for number in range(3)], ["full"] * 3)
        wall = Wall(MANY.with_rule("power", ("full", "code", "code")), (3, 2, 1))
        wall.bring(1, True, True)
        wall.bring(3, True, True)
        self.assertEqual(wall.power(), [2, 2, 1, 1])


class BookTest(unittest.TestCase):
    def test_change(self):
        wall = Wall(SIMPLE, (1, 2))
        wall.bring(1, True, True)
        stands = [wall.box(0), wall.box(1)]
        wall.change(MANY)
        self.assertEqual([wall.box(0), wall.box(1)], stands)
        self.assertEqual(wall.book, MANY)
        self.assertEqual(wall.bring(1, True, False), (2, 1, [2]))
        self.assertEqual(wall.code(1, True, True), ([], True, [1]))
        self.assertEqual(wall.box(0), (False, [], "full", [1], 0))

    def test_assignment(self):
        wall = Wall(SIMPLE, (1,))
        wall.book = MANY
        self.assertEqual(wall.book, MANY)
        wall.bring(1, True, True)
        self.assertEqual(wall.bring(1, True, True), (2, 0, [2]))

    def test_only_the_book_can_be_assigned(self):
        wall = Wall(SIMPLE, (1,))
        for name in ("parcels", "lying"):
            self.assertIsInstance(vars(Wall)[name], property)
            with self.assertRaises(AttributeError):
                setattr(wall, name, 3)
        self.assertIsInstance(vars(Wall)["book"], property)

    def test_a_book_of_fewer_days(self):
        wall = Wall(MANY.with_days(5), (1,))
        wall.bring(1, True, True)
        for _ in range(3):
            wall.day()
        wall.change(MANY.with_days(3))
        self.assertEqual([wall.day() for _ in range(4)], [[], [], [], []])
        self.assertEqual(wall.box(0), (False, [1], "free", [1], 7))
        wall.change(MANY.with_days(8))
        self.assertEqual(wall.day(), [1])

    def test_a_book_of_more_days(self):
        wall = Wall(MANY.with_days(2), (1,))
        wall.bring(1, True, True)
        self.assertEqual([wall.day(), wall.day()], [[], [1]])
        wall.book = MANY.with_days(4)
        self.assertEqual([wall.day(), wall.day(), wall.day()], [[], [1], []])


class ContainsTest(unittest.TestCase):
    def test_parcels(self):
        wall = Wall(SIMPLE, (1, 2))
        self.assertIs(1 in wall, False)
        wall.bring(2, True, True)
        wall.bring(1, False, True)
        wall.bring(1, True, True)
        self.assertIs(1 in wall, True)
        self.assertIs(2 in wall, False)
        self.assertIs(3 in wall, False)
        self.assertIs(4 in wall, False)
        wall.code(1, True, True)
        self.assertIs(1 in wall, False)

    def test_values_of_any_kind(self):
        wall = Wall(MANY, (1,))
        for _ in range(12):
            wall.bring(1, True, True)
        self.assertIs(12 in wall, True)
        for odd in ODD + ["1", "12", 13, 0, -1, 1.0, True, (1,), [1]]:
            wanted = type(odd) is int and 1 <= odd <= 12
            self.assertIs(odd in wall, wanted)

    def test_a_value_that_is_equal_to_everything(self):
        class Same:
            def __eq__(self, other):
                return True
        wall = Wall(MANY, (1,))
        wall.bring(1, True, True)
        self.assertIs(Same() in wall, False)


class ToldTest(unittest.TestCase):
    def test_the_caller_may_change_what_was_told(self):
        wall = Wall(MANY, (1, 2))
        lists = [wall.bring(1, True, True)[2], wall.bring(1, True, False)[2]]
        lists += [wall.box(0)[1], wall.box(0)[3], wall.power(), wall.bring(2, True, False)[2]]
        before = picture_of(wall)
        for told in lists:
            told.append(99)
            told.insert(0, 98)
        self.assertEqual(picture_of(wall), before)
        for told in (wall.code(3, True, False)[2], wall.code(3, True, False)[0], wall.pass_by(0)):
            told.append(77)
        wall.undo()
        wall.undo()
        wall.undo()
        self.assertEqual(picture_of(wall), before)
        self.assertEqual(wall.pass_by(0), [1, 2])
        self.assertEqual(wall.pass_by(0), [])

    def test_as_play_tells(self):
        wall = Wall(GOOD, (4, 4))
        deeds = [("bring", True, True), ("code", 1, False, True), ("bring", True, False), ("code", 1, True, True)]
        # The other box gets a parcel first, so that the numbers differ.
        wall.bring(1, True, False)
        told = []
        for parcel, deed in ((2, deeds[0]), (2, deeds[1]), (3, deeds[2]), (2, deeds[3])):
            told.append(wall.bring(4, *deed[1:])[1:] if deed[0] == "bring" else wall.code(parcel, *deed[2:]))
        self.assertEqual(told, [(1, [2]), ([], True, []), (1, [3]), ([], False, [])])
        self.assertEqual(play(GOOD, deeds), [([1], True, []), ([], True, []), ([2], True, []), ([], False, [])])
        self.assertEqual(boxes(GOOD, deeds), (False, [1, 2], "full", [2], 0))
        self.assertEqual(wall.box(1), (False, [2, 3], "full", [3], 0))


if __name__ == "__main__":
    unittest.main()
