"""[7] to [21] compared with the second telling, for many books; the numbers come out the same in every run."""

import random
import re
import unittest

from lockerwall.alike import told_apart
from lockerwall.books import Book
from lockerwall.errors import NoText
from lockerwall.lasting import first_dead, first_stuck
from lockerwall.plays import boxes, faults, play
from lockerwall.right import fewest_taken, first_fault, first_of, idle
from lockerwall.texts import book_text, deeds_text, read_book, read_deeds
from lockerwall.walls import Wall
from tests import oracle
from tests.slow_wall import SlowWall, picture_of
from tests.test_fewest import tried_one_by_one
from tests.test_right import BEST
from tests.values import GOOD


def some_rule(chance):
    many = chance.choice((0, 1, 1, 2, 2, 3, 6))
    return tuple(chance.choice(oracle.ACTIONS) for _ in range(many))


def some_book(chance, days):
    if chance.random() < 0.3:
        return Book(days, *[some_rule(chance) for _ in range(8)])
    book = chance.choice((GOOD, BEST)).with_days(days)
    for _ in range(chance.randint(0, 3)):
        book = book.with_rule(chance.choice(oracle.MOMENTS), some_rule(chance))
    return book


def some_deeds(chance, most):
    deeds, brought = [], 0
    for _ in range(chance.randint(0, most)):
        word = chance.choice(("bring", "bring", "code", "code", "code", "pass", "day", "power"))
        if word == "bring" or word == "code" and not brought:
            brought += 1
            deeds.append(("bring", chance.random() < 0.7, chance.random() < 0.6))
        elif word == "code":
            parcel = chance.randint(max(1, brought - 3), brought)
            deeds.append(("code", parcel, chance.random() < 0.7, chance.random() < 0.6))
        else:
            deeds.append((word,))
    return deeds


def near_book(chance, book):
    """Return a book that differs little."""
    for _ in range(chance.randint(1, 2)):
        moment = chance.choice(oracle.MOMENTS)
        rule = list(book.rule(moment))
        if rule and chance.random() < 0.5:
            del rule[chance.randrange(len(rule))]
        if len(rule) < 6 and chance.random() < 0.7:
            rule.insert(chance.randint(0, len(rule)), chance.choice(oracle.ACTIONS))
        book = book.with_rule(moment, tuple(rule))
    return book.with_days(chance.choice((book.days(), 1, 2, 3)))


def some_care(chance):
    share = chance.choice((0.2, 0.5, 0.9))
    return tuple(care for care in oracle.CARES if chance.random() < share)


class PlaysTest(unittest.TestCase):
    def test_plays(self):
        chance = random.Random(1)
        for _ in range(1500):
            book = some_book(chance, chance.choice((1, 2, 3)))
            deeds = some_deeds(chance, chance.choice((5, 20, 200)))
            reports, wrong, stands, _ = oracle.told(book, deeds)
            self.assertEqual(play(book, deeds), reports)
            self.assertEqual(faults(book, deeds), wrong)
            self.assertEqual(boxes(book, deeds), stands)


class RightTest(unittest.TestCase):
    def check(self, book, care, found, least, tried, kind=None):
        """Compare a found list, or None, with the least number of deeds among all lists up to a number of deeds."""
        if least is None:
            self.assertTrue(found is None or len(found) > tried, (book.rules(), care, found))
        else:
            self.assertIsNotNone(found, (book.rules(), care))
            self.assertEqual(len(found), least, (book.rules(), care, found))
        if found is not None:
            self.assertTrue(oracle.is_allowed(book, care, found))
            wrong = oracle.told(book, found)[1]
            self.assertEqual({index for _, index in wrong}, {len(found) - 1})
            self.assertTrue(kind is None or (kind, len(found) - 1) in wrong)

    def test_shortest_lists_and_idle_moments(self):
        chance = random.Random(2)
        for _ in range(150):
            book, care = some_book(chance, chance.choice((1, 1, 2, 3))), some_care(chance)
            least, carried, tried = oracle.firsts(book, care, 7, 250)
            self.check(book, care, first_fault(book, care), min(least.values(), default=None), tried)
            for kind in oracle.KINDS:
                self.check(book, care, first_of(book, care, kind), least.get(kind), tried, kind)
            self.assertEqual([moment for moment in idle(book, care) if moment in carried], [])

    def test_long_walks(self):
        chance = random.Random(3)
        for _ in range(150):
            book, care = some_book(chance, chance.choice((1, 2, 5))), some_care(chance)
            still, first = idle(book, care), first_fault(book, care)
            state = oracle.start()
            for _ in range(60):
                deeds = [deed for deed in oracle.deeds_at(state) if oracle.allows(care, state, deed)]
                _, kinds, moments = oracle.deed_at(book, state, chance.choice(deeds))
                if kinds:
                    self.assertIsNotNone(first)
                    self.assertEqual([kind for kind in kinds if first_of(book, care, kind) is None], [])
                    break
                self.assertEqual([moment for moment in moments if moment in still], [])

    def test_fewest_taken(self):
        chance = random.Random(4)
        for _ in range(60):
            book, good, care = some_book(chance, 2), some_book(chance, 1), some_care(chance)
            self.assertEqual(fewest_taken(book, good, care), tried_one_by_one(book, good, care))


class LastingTest(unittest.TestCase):
    def check(self, book, care, function, wanted):
        found = function(book, care)
        least, tried = oracle.first_hopeless(wanted, book, care, 4, 120)
        self.assertEqual(found is not None and len(found) <= tried, least is not None, (book.rules(), care, found))
        if found is None:
            return
        self.assertEqual(len(found), least or len(found))
        self.assertTrue(oracle.is_allowed(book, care, found))
        _, wrong, stands, _ = oracle.told(book, found)
        self.assertEqual(wrong, [])
        self.assertTrue(stands[1] or wanted is oracle.lays)
        state = oracle.start()
        for deed in found:
            oracle.deed_at(book, state, deed)
        self.assertIsNot(oracle.leads_to(wanted, book, care, state, 300), True)

    def test_lasting(self):
        chance = random.Random(5)
        for _ in range(120):
            book, care = some_book(chance, chance.choice((1, 1, 2))), some_care(chance)
            self.check(book, care, first_stuck, oracle.takes_own)
            self.check(book, care, first_dead, oracle.lays)


class AlikeTest(unittest.TestCase):
    def test_told_apart(self):
        chance = random.Random(6)
        for number in range(200):
            book, care = some_book(chance, chance.choice((1, 1, 2, 3))), some_care(chance)
            other = near_book(chance, book) if number % 8 else some_book(chance, 2)
            found = told_apart(book, other, care)
            least, tried = oracle.first_apart(book, other, care, 6, 200)
            if least is None:
                self.assertTrue(found is None or len(found) > tried, (book.rules(), other.rules(), care, found))
            else:
                self.assertEqual(len(found or []), least, (book.rules(), other.rules(), care, found))
            if found is not None:
                self.assertTrue(oracle.is_allowed(book, care, found) and oracle.is_allowed(other, care, found))
                self.assertNotEqual(oracle.told(book, found)[0], oracle.told(other, found)[0])

    def test_long_walks(self):
        chance = random.Random(7)
        for _ in range(150):
            book, care = some_book(chance, chance.choice((1, 2, 4))), some_care(chance)
            other = near_book(chance, book)
            if told_apart(book, other, care) is None:
                one, two = oracle.start(), oracle.start()
                for _ in range(60):
                    deeds = [deed for deed in oracle.deeds_at(one) if oracle.allows(care, one, deed)]
                    deed = chance.choice(deeds)
                    self.assertEqual(oracle.deed_at(book, one, deed)[0], oracle.deed_at(other, two, deed)[0])


class WallsTest(unittest.TestCase):
    def some_call(self, chance, slow):
        word = chance.choice(("bring", "bring", "bring", "code", "code", "code", "pass_by", "day", "power", "change", "undo"))
        truths = (chance.random() < 0.7, chance.random() < 0.7)
        brought = sum(call[0] == "bring" for call in slow.calls)
        if word == "bring" or word == "code" and not brought:
            return ("bring", chance.randint(1, 9), *truths)
        if word == "code":
            return ("code", chance.randint(max(1, brought - 8), brought), *truths)
        if word == "pass_by":
            return ("pass_by", chance.randrange(len(slow.sizes)))
        if word == "change":
            return ("change", some_book(chance, chance.choice((1, 2, 3))))
        return (word,) if word != "undo" or slow.calls else ("day",)

    def test_walls(self):
        chance = random.Random(8)
        for number in range(60):
            book = some_book(chance, chance.choice((1, 2, 3)))
            sizes = tuple(chance.randint(1, 9) for _ in range(chance.choice((1, 2, 3, 12))))
            wall, slow = Wall(book, sizes), SlowWall(book, sizes)
            for _ in range(chance.choice((10, 40))):
                call = self.some_call(chance, slow)
                told = getattr(wall, call[0])(*call[1:])
                self.assertEqual(told, slow.do(*call), (book.rules(), sizes, slow.calls))
                self.assertEqual(picture_of(wall), slow.picture())
            while slow.calls:
                wall.undo()
                slow.do("undo")
            self.assertEqual(picture_of(wall), slow.picture())


class TextsTest(unittest.TestCase):
    def check(self, read, write, text, forms, whole):
        """Check what is read, by the form that each line has to have; whole tells whether no line may be missing."""
        lines = text.split("\n")
        wrong = [at for at, line in enumerate(lines) if at >= len(forms) or not re.fullmatch(forms[at], line)]
        if whole and len(lines) < len(forms):
            wrong.append(len(lines))
        if not wrong or not whole and text == "":
            self.assertEqual(write(read(text)), text)
            return
        with self.assertRaises(NoText, msg=repr(text)) as caught:
            read(text)
        self.assertEqual(caught.exception.line, wrong[0], repr(text))

    def changed(self, chance, text):
        """Return a text with one sign more, less or another one, or with a line at another place."""
        if chance.random() < 0.2:
            lines = text.split("\n")
            line = lines.pop(chance.randrange(len(lines)))
            lines.insert(chance.randint(0, len(lines)), line)
            return "\n".join(lines)
        at, sign = chance.randint(0, len(text)), chance.choice(" \n\t:0123456789abcdefgklnoprtuvwy")
        return text[:at] + chance.choice((sign, "")) + text[at + chance.choice((0, 1)):]

    def test_books(self):
        chance = random.Random(9)
        rule = "( (" + "|".join(oracle.ACTIONS) + ")){0,6}"
        forms = ["days ([1-9]|1[0-9]|2[0-9]|30)"] + [moment + ":" + rule for moment in oracle.MOMENTS]
        for _ in range(1000):
            book = some_book(chance, chance.randint(1, 30))
            self.assertEqual(read_book(book_text(book)), book)
            text = self.changed(chance, book_text(book))
            self.check(read_book, book_text, text, forms, True)
            self.check(read_book, book_text, self.changed(chance, text), forms, True)

    def test_deeds(self):
        chance = random.Random(10)
        form = ("bring (lay|bare) (shut|ajar)|code ([1-9][0-9]{0,8}|1000000000) (take|leave) (shut|ajar)"
                "|pass|day|power")
        for _ in range(1000):
            deeds = some_deeds(chance, 12)
            self.assertEqual(read_deeds(deeds_text(deeds)), deeds)
            text = self.changed(chance, deeds_text(deeds))
            self.check(read_deeds, deeds_text, text, [form] * 20, False)
            self.check(read_deeds, deeds_text, self.changed(chance, text), [form] * 20, False)
