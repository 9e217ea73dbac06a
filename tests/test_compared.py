"""[7] to [17] compared with the second telling, for many books; the numbers come out the same in every run."""

import random
import unittest

from lockerwall.books import Book
from lockerwall.plays import boxes, faults, play
from lockerwall.right import fewest_taken, first_fault, first_of, idle
from tests import oracle
from tests.test_fewest import tried_one_by_one
from tests.test_right import BEST
from tests.values import GOOD


def some_rule(chance):
    many = chance.choice((0, 1, 1, 2, 2, 3, 6))
    return tuple(chance.choice(oracle.ACTIONS) for _ in range(many))


def some_book(chance, days):
    if chance.random() < 0.3:
        return Book(days, *[some_rule(chance) for _ in range(8)])
    book = chance.choice((GOOD, BEST)).with_days(days)
    for _ in range(chance.randint(0, 3)):
        book = book.with_rule(chance.choice(oracle.MOMENTS), some_rule(chance))
    return book


def some_deeds(chance, most):
    deeds, brought = [], 0
    for _ in range(chance.randint(0, most)):
        word = chance.choice(("bring", "bring", "code", "code", "code", "pass", "day", "power"))
        if word == "bring" or word == "code" and not brought:
            brought += 1
            deeds.append(("bring", chance.random() < 0.7, chance.random() < 0.6))
        elif word == "code":
            parcel = chance.randint(max(1, brought - 3), brought)
            deeds.append(("code", parcel, chance.random() < 0.7, chance.random() < 0.6))
        else:
            deeds.append((word,))
    return deeds


def some_care(chance):
    share = chance.choice((0.2, 0.5, 0.9))
    return tuple(care for care in oracle.CARES if chance.random() < share)


class PlaysTest(unittest.TestCase):
    def test_plays(self):
        chance = random.Random(1)
        for _ in range(1500):
            book = some_book(chance, chance.choice((1, 2, 3)))
            deeds = some_deeds(chance, chance.choice((5, 20, 200)))
            reports, wrong, stands, _ = oracle.told(book, deeds)
            self.assertEqual(play(book, deeds), reports)
            self.assertEqual(faults(book, deeds), wrong)
            self.assertEqual(boxes(book, deeds), stands)


class RightTest(unittest.TestCase):
    def check(self, book, care, found, least, tried, kind=None):
        """Compare a found list, or None, with the least number of deeds among all lists up to a number of deeds."""
        if least is None:
            self.assertTrue(found is None or len(found) > tried, (book.rules(), care, found))
        else:
            self.assertIsNotNone(found, (book.rules(), care))
            self.assertEqual(len(found), least, (book.rules(), care, found))
        if found is not None:
            self.assertTrue(oracle.is_allowed(book, care, found))
            wrong = oracle.told(book, found)[1]
            self.assertEqual({index for _, index in wrong}, {len(found) - 1})
            self.assertTrue(kind is None or (kind, len(found) - 1) in wrong)

    def test_shortest_lists_and_idle_moments(self):
        chance = random.Random(2)
        for _ in range(150):
            book, care = some_book(chance, chance.choice((1, 1, 2, 3))), some_care(chance)
            least, carried, tried = oracle.firsts(book, care, 7, 250)
            self.check(book, care, first_fault(book, care), min(least.values(), default=None), tried)
            for kind in oracle.KINDS:
                self.check(book, care, first_of(book, care, kind), least.get(kind), tried, kind)
            self.assertEqual([moment for moment in idle(book, care) if moment in carried], [])

    def test_long_walks(self):
        chance = random.Random(3)
        for _ in range(150):
            book, care = some_book(chance, chance.choice((1, 2, 5))), some_care(chance)
            still, first = idle(book, care), first_fault(book, care)
            state = oracle.start()
            for _ in range(60):
                deeds = [deed for deed in oracle.deeds_at(state) if oracle.allows(care, state, deed)]
                _, kinds, moments = oracle.deed_at(book, state, chance.choice(deeds))
                if kinds:
                    self.assertIsNotNone(first)
                    self.assertEqual([kind for kind in kinds if first_of(book, care, kind) is None], [])
                    break
                self.assertEqual([moment for moment in moments if moment in still], [])

    def test_fewest_taken(self):
        chance = random.Random(4)
        for _ in range(60):
            book, good, care = some_book(chance, 2), some_book(chance, 1), some_care(chance)
            self.assertEqual(fewest_taken(book, good, care), tried_one_by_one(book, good, care))
