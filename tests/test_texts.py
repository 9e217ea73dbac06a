"""[20] and [21]: texts of books and of deeds."""

import copy
import unittest

from lockerwall.alike import told_apart
from lockerwall.books import Book
from lockerwall.errors import NoDeed, NoParcel, NoText
from lockerwall.plays import boxes, faults, play
from lockerwall.right import first_fault
from lockerwall.texts import book_text, deeds_text, read_book, read_deeds
from lockerwall.walls import Wall
from tests.test_right import BEST
from tests.values import ALL_CARE, GOOD, ODD

GOOD_LINES = ["days 3", "given: void full", "laid: code", "left: lock code", "opened:", "taken: free",
              "gone: lock look", "late:", "power:"]
NUMBERS = ["", "0", "00", "01", "007", "-1", "+1", "1.0", "1e3", "0x1", "1_0", " 1", "1 ", "x", "\t1", "1\t", "9" * 60,
           "0" * 59 + "1", "\u0661", "\u00b2", "\uff11", "one", "1-", "--1", "1,0", "NUMBER", "True", "None"]
STRINGLESS = [odd for odd in ODD if not isinstance(odd, str)]


class Texts(unittest.TestCase):
    def check_wrong(self, function, text, line):
        with self.assertRaises(NoText, msg=repr(text)) as caught:
            function(text)
        self.assertEqual(caught.exception.line, line, repr(text))
        self.assertIs(type(caught.exception.line), int)

    def check_values_that_are_no_strings(self, function):
        class Same:
            def __eq__(self, other):
                return True
        for odd in [*STRINGLESS, Same(), ["days 1"], ("pass",), b"pass", b""]:
            self.check_wrong(function, odd, 0)


class BookTextTest(unittest.TestCase):
    def test_texts(self):
        self.assertEqual(book_text(GOOD), "\n".join(GOOD_LINES))
        self.assertEqual(book_text(Book(30)), "days 30\ngiven:\nlaid:\nleft:\nopened:\ntaken:\ngone:\nlate:\npower:")
        six = ("free", "full", "off", "code", "void", "look")
        self.assertEqual(book_text(Book(1, power=six, late=("lock",))),
                         "days 1\ngiven:\nlaid:\nleft:\nopened:\ntaken:\ngone:\nlate: lock\n"
                         "power: free full off code void look")
        self.assertEqual(book_text(book=Book(9)).split("\n")[0], "days 9")

    def test_read_back(self):
        six = ("lock", "look", "void", "code", "off", "off")
        for book in (GOOD, BEST, Book(1), Book(30), Book(10, *[six] * 8), Book(2, (), six, (), six)):
            self.assertEqual(read_book(book_text(book)), book)
            self.assertEqual(read_book(text=book_text(book)).rules(), book.rules())
        for days in range(1, 31):
            self.assertEqual(read_book(book_text(GOOD.with_days(days))).days(), days)

    def test_books_out_of_a_text_or_off_a_wall(self):
        wall = Wall(GOOD, (1,))
        wall.book = BEST
        for book, same in ((read_book("\n".join(GOOD_LINES)), GOOD), (wall.book, BEST)):
            self.assertEqual(book, same)
            self.assertEqual(book_text(book), book_text(same))
            self.assertEqual(first_fault(book, ALL_CARE) is None, first_fault(same, ALL_CARE) is None)
            self.assertIsNone(told_apart(book, same, ALL_CARE))
            self.assertEqual(book.taking(Book(1), ("laid",)), same.with_rule("laid", ()))
            self.assertNotEqual(book, same.with_days(9))
            self.assertNotEqual(book, book_text(book))


class ReadBookTest(Texts):
    def check_line(self, at, line):
        self.check_wrong(read_book, "\n".join(GOOD_LINES[:at] + [line] + GOOD_LINES[at + 1:]), at)

    def test_values_that_are_no_strings(self):
        self.check_values_that_are_no_strings(read_book)

    def test_the_first_line(self):
        for number in NUMBERS + ["31", "100", "0", "30 ", "3 3"]:
            self.check_line(0, "days " + number)
        for line in ("", "days", "days3", "3", "Days 3", "day 3", " days 3", "days  3", "days\t3", "days 3 ", "days 3\t",
                     "days:3", "days: 3", "given:", "days 3 days 3", "days 3\r"):
            self.check_line(0, line)

    def test_wrong_rules(self):
        for line in ("laid", "laid ", "laid: ", "laid:  code", "laid: code ", " laid: code", "laid:code", "laid : code",
                     "laid: code  void", "laid:\tcode", "laid: code\tvoid", "laid: code\t", "laid: Code", "laid: codes",
                     "laid: code,void", "laid: code, void", "Laid: code", "given: code", "left: code", "", " ", "late:",
                     "laid:: code", "laid: laid", "laid: code laid:", "laid: free full off code void look lock",
                     "laid: " + "code " * 6 + "code", "laid: ()", "laid: none", "laid:code code", "days 3"):
            self.check_line(2, line)
        self.assertEqual(read_book("\n".join(GOOD_LINES).replace("laid: code", "laid: code code code code code code")),
                         GOOD.with_rule("laid", ("code",) * 6))

    def test_each_line(self):
        for at in range(1, 9):
            for line in ("", GOOD_LINES[at] + " ", " " + GOOD_LINES[at], GOOD_LINES[at].replace(":", ": x", 1),
                         GOOD_LINES[at - 1], GOOD_LINES[at].replace(":", "", 1), GOOD_LINES[at] + ":"):
                self.check_line(at, line)

    def test_the_first_wrong_line_counts(self):
        lines = list(GOOD_LINES)
        for at in range(8, -1, -1):
            lines[at] += " x"
            self.check_wrong(read_book, "\n".join(lines), at)
            self.check_wrong(read_book, "\n".join(lines + ["", ""]), at)

    def test_lines_that_are_missing(self):
        for many in range(1, 9):
            self.check_wrong(read_book, "\n".join(GOOD_LINES[:many]), many)
            self.check_wrong(read_book, "\n".join(GOOD_LINES[:many]) + "\n", many)
        self.check_wrong(read_book, "", 0)
        self.check_wrong(read_book, "\n", 0)
        for at in range(8):
            self.check_wrong(read_book, "\n".join(GOOD_LINES[:at] + GOOD_LINES[at + 1:]), at)

    def test_lines_that_are_out_of_place_or_there_twice(self):
        for at in range(8):
            lines = list(GOOD_LINES)
            lines[at], lines[at + 1] = lines[at + 1], lines[at]
            self.check_wrong(read_book, "\n".join(lines), at)
        for at in range(9):
            self.check_wrong(read_book, "\n".join(GOOD_LINES[:at + 1] + GOOD_LINES[at:]), at + 1)
            self.check_wrong(read_book, "\n".join(GOOD_LINES[:at + 1] + [""] + GOOD_LINES[at + 1:]), at + 1)

    def test_lines_too_many(self):
        text = "\n".join(GOOD_LINES)
        for more in ("\n", "\n\n\n", "\npower:", "\n" + text, "\nx", "\n "):
            self.check_wrong(read_book, text + more, 9)
        self.check_wrong(read_book, "\n" + text, 0)

    def test_other_ends_of_lines(self):
        for end in ("\r", "\x0b", "\x0c", "\x1c", "\x85", "\u2028", "\r\n", "\t", " "):
            self.check_wrong(read_book, end.join(GOOD_LINES), 0)
            self.check_wrong(read_book, "\n".join(GOOD_LINES) + end, 9 if "\n" in end and end[0] == "\n" else 8)


class DeedsTextTest(unittest.TestCase):
    deeds = [("bring", True, True), ("bring", False, True), ("bring", True, False), ("bring", False, False),
             ("code", 1, True, True), ("code", 2, False, True), ("code", 3, True, False), ("code", 4, False, False),
             ("pass",), ("day",), ("power",)]
    text = ("bring lay shut\nbring bare shut\nbring lay ajar\nbring bare ajar\ncode 1 take shut\ncode 2 leave shut\n"
            "code 3 take ajar\ncode 4 leave ajar\npass\nday\npower")

    def test_texts(self):
        self.assertEqual(deeds_text([]), "")
        self.assertEqual(deeds_text(self.deeds), self.text)
        self.assertEqual(deeds_text(deeds=[("day",)]), "day")
        deeds = copy.deepcopy(self.deeds)
        deeds_text(deeds)
        self.assertEqual(deeds, self.deeds)

    def test_read_back(self):
        self.assertEqual(read_deeds(self.text), self.deeds)
        self.assertEqual(read_deeds(text=self.text), self.deeds)
        for deed in self.deeds:
            self.assertEqual(read_deeds(deeds_text([deed])), [deed])
        for parcel in (1, 9, 10, 99, 101, 10 ** 6, 10 ** 9 - 1, 10 ** 9):
            self.assertEqual(deeds_text([("code", parcel, True, True)]), "code " + str(parcel) + " take shut")
            self.assertEqual(read_deeds("code " + str(parcel) + " take shut"), [("code", parcel, True, True)])
        self.assertEqual(read_deeds(deeds_text(self.deeds * 18)), self.deeds * 18)

    def test_deeds_that_were_read(self):
        deeds = read_deeds(self.text)
        for function in (play, faults, boxes):
            self.assertEqual(function(GOOD, deeds), function(GOOD, self.deeds))
        for deed in deeds:
            self.assertIs(type(deed), tuple)
            self.assertTrue(all(part is True or part is False or type(part) in (int, str) for part in deed))

    def test_a_parcel_that_was_not_brought(self):
        self.assertEqual(deeds_text([("code", 7, True, True)]), "code 7 take shut")
        deeds = read_deeds("code 7 take shut\nbring lay shut")
        self.assertEqual(deeds, [("code", 7, True, True), ("bring", True, True)])
        with self.assertRaises(NoParcel) as caught:
            play(GOOD, deeds)
        self.assertEqual(caught.exception.number, 0)

    def test_no_deed(self):
        wrong = [("bring",), ("bring", True), ("bring", 1, True), ("bring", True, 0), ("bring", True, True, True),
                 ("code", 0, True, True), ("code", True, True, True), ("code", 10 ** 9 + 1, True, True), ("code", 1, True),
                 ("code", 1, 1, True), ("code", 1, True, None), ("code", "1", True, True), ("code", 1.0, True, True),
                 ("pass", True), ("day", 1), ("Day",), ["day"], "day", ("night",), (("day",),)]
        for odd in wrong + [odd for odd in ODD if odd != ("day",)]:
            for at in (0, 1, 3):
                with self.assertRaises(NoDeed, msg=odd) as caught:
                    deeds_text([("code", 5, True, True)] * at + [odd, None])
                self.assertEqual(caught.exception.index, at)
        for odd in [odd for odd in ODD if type(odd) is not list] + [(("day",),), "day", {("day",)}]:
            with self.assertRaises(NoDeed, msg=odd) as caught:
                deeds_text(odd)
            self.assertEqual(caught.exception.index, 0)


class ReadDeedsTest(Texts):
    def check_line(self, line):
        self.check_wrong(read_deeds, line, 0)
        self.check_wrong(read_deeds, "day\nbring lay shut\n" + line, 2)
        self.check_wrong(read_deeds, "day\n" + line + "\n" + line + "\npass", 1)

    def test_the_empty_string(self):
        self.assertEqual(read_deeds(""), [])
        read_deeds("").append(1)
        self.assertEqual(read_deeds(""), [])

    def test_values_that_are_no_strings(self):
        self.check_values_that_are_no_strings(read_deeds)

    def test_lines(self):
        good = ["bring lay shut", "bring bare ajar", "code 1 take shut", "code 12 leave ajar", "pass", "day", "power"]
        for line in good:
            for wrong in (" " + line, line + " ", line + "\t", "\t" + line, line.upper(), line + " shut", line + "\r",
                          line + " 1", line[:-1], line[1:], line.replace(" ", "  ", 1) + " ", line + line, line + ","):
                self.check_line(wrong)
            if " " in line:
                for space in ("  ", "\t", "", ", ", "-"):
                    self.check_line(line.replace(" ", space, 1))
                    self.check_line(space.join(line.rsplit(" ", 1)))
                self.check_line(line.rsplit(" ", 1)[0])
                self.check_line(line.split(" ")[0])

    def test_words(self):
        for line in ("bring shut lay", "bring take shut", "bring lay take", "bring leave shut", "bring lay lay", "bring 1 lay",
                     "bring True True", "bring lay bare", "bring ajar shut", "code 1 lay shut", "code 1 take bare",
                     "code take 1 shut", "code 1 shut take", "code 1 take shut ajar", "code lay shut", "code 1 bare ajar",
                     "pass 1", "day 1", "power power", "night", "pass by", "days 3", "undo", "('day',)", "code 1 True True"):
            self.check_line(line)

    def test_numbers(self):
        for number in NUMBERS + ["1000000001", "2000000000", "9999999999", "10000000000", "1000000000 "]:
            self.check_line("code " + number + " take shut")
            self.check_line("code " + number + " leave ajar")

    def test_lines_that_are_empty(self):
        self.check_wrong(read_deeds, "\n", 0)
        self.check_wrong(read_deeds, "\n\n", 0)
        self.check_wrong(read_deeds, " ", 0)
        self.check_wrong(read_deeds, "\nday", 0)
        self.check_wrong(read_deeds, "day\n", 1)
        self.check_wrong(read_deeds, "day\n\nday", 1)
        self.check_wrong(read_deeds, "day\npass\n", 2)
        self.check_wrong(read_deeds, "day\npass\n\n", 2)

    def test_other_ends_of_lines(self):
        for end in ("\r", "\x0b", "\x0c", "\x1c", "\x85", "\u2028", "\r\n", " ", "\t"):
            self.check_wrong(read_deeds, "day" + end + "pass", 0)


if __name__ == "__main__":
    unittest.main()
