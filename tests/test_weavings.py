"""Points 36 and 37: orders, weavings, and the least of all weavings."""

import copy
import itertools
import random
import unittest

from samples import spoil
from sharedboard.books import Book
from sharedboard.deeds import deed_class
from sharedboard.errors import NoHistory, NoOrder
from sharedboard.orders import alike_weavings, normal, weaves

A, B, C, D, NONE = (0, 0), (0, 1), (1, 0), (1, 1), (2, 1)
CLASSES = (A, B, C, D)
PAIRS = [(one, other) for one in CLASSES for other in CLASSES if one <= other]


def book_of_choices():
    """Return a book whose runs of procedures 0 and 1 are [0] in way 0, and [1, ..] in way 1."""
    body = [("either", [], [("again", []), ("end", 1)])]
    return Book(1, [body, body, []])


BOOK = book_of_choices()
DEEDS = [(0, [0], 0), (0, [0], -3), (0, [1, 0], 0), (0, [1, 1, 0], 5), (1, [0], 10 ** 59), (1, [1, 0], 2), (1, [1, 1, 1, 0], 2)]


def held(order, one, other):
    classes = sorted([deed_class(BOOK, one), deed_class(BOOK, other)])
    return tuple(classes) in order


def all_weavings(order, history):
    """Return all weavings of a history, found by exchanging neighbours."""
    waiting, found = [history], [history]
    while waiting:
        present = waiting.pop()
        for k in range(len(present) - 1):
            if not held(order, present[k], present[k + 1]):
                other = [*present[:k], present[k + 1], present[k], *present[k + 2:]]
                if other not in found:
                    found.append(other)
                    waiting.append(other)
    return found


def random_cases(many, most):
    for seed in range(many):
        source = random.Random(seed)
        order = sorted(source.sample(PAIRS, source.choice([0, 2, 4, 5, 7, 10])))
        yield source, order, [copy.deepcopy(source.choice(DEEDS)) for _ in range(source.randint(0, most))]


class WeavesTest(unittest.TestCase):
    def test_written_out(self):
        a, b, c = DEEDS[0], DEEDS[2], DEEDS[4]
        self.assertTrue(weaves(BOOK, [], [a, b, c], [c, b, a]))
        self.assertFalse(weaves(BOOK, [(A, B)], [a, b, c], [c, b, a]))
        self.assertTrue(weaves(BOOK, [(A, B)], [a, b, c], [c, a, b]))
        self.assertTrue(weaves(BOOK, [(A, B), (B, C)], [a, b, c], [a, b, c]))
        self.assertFalse(weaves(BOOK, [(A, B), (B, C)], [a, b, c], [a, c, b]))

    def test_two_deeds_of_one_class(self):
        one, other = DEEDS[0], DEEDS[1]
        self.assertTrue(weaves(BOOK, [(A, B), (B, B)], [one, other], [other, one]))
        self.assertFalse(weaves(BOOK, [(A, A)], [one, other], [other, one]))
        self.assertTrue(weaves(BOOK, [(A, A)], [one, one, other], [one, one, other]))
        self.assertFalse(weaves(BOOK, [(A, A)], [one, one, other], [one, other, one]))

    def test_equal_deeds_several_times(self):
        a, b = DEEDS[0], DEEDS[2]
        self.assertTrue(weaves(BOOK, [], [a, a, b, a], [b, a, a, a]))
        self.assertFalse(weaves(BOOK, [], [a, a, b], [a, b, b]))
        self.assertFalse(weaves(BOOK, [(A, B)], [a, a, b, a], [a, b, a, a]))

    def test_other_lengths_and_other_deeds(self):
        a, b = DEEDS[0], DEEDS[2]
        for one, other in (([a], []), ([a, b], [a]), ([a, a], [a]), ([a], [b]), ([a], [DEEDS[1]]), ([b], [DEEDS[3]]),
                           ([a, b], [a, (0, [1, 1, 0], 0)]), ([a, b], [a, (0, [1, 0], 1)]), ([a], [(1, [0], 0)])):
            self.assertFalse(weaves(BOOK, [], one, other))
            self.assertFalse(weaves(BOOK, [], other, one))
        self.assertTrue(weaves(BOOK, [], [], []))
        self.assertTrue(weaves(BOOK, PAIRS, [], []))

    def test_against_all_exchanges(self):
        seen = {True: 0, False: 0}
        for source, order, history in random_cases(300, 5):
            every = all_weavings(order, history)
            for other in itertools.islice(itertools.permutations(history), 0, 120, 7):
                told = weaves(BOOK, order, history, list(other))
                self.assertEqual(told, list(other) in every)
                self.assertEqual(weaves(BOOK, order, list(other), history), told)
                seen[told] += 1
            if history:
                changed = [*history]
                changed[source.randrange(len(history))] = source.choice(DEEDS)
                self.assertEqual(weaves(BOOK, order, history, changed), changed in every)
        self.assertGreater(min(seen.values()), 200)

    def test_105_deeds_on_each_side(self):
        source = random.Random(7)
        order = [(A, A), (A, C), (B, D)]
        history = [source.choice(DEEDS) for _ in range(105)]
        other = [*history]
        for _ in range(5000):
            k = source.randrange(104)
            if not held(order, other[k], other[k + 1]):
                other[k:k + 2] = [other[k + 1], other[k]]
        self.assertNotEqual(history, other)
        self.assertTrue(weaves(BOOK, order, history, other))
        place = next(k for k in range(104) if other[k] != other[k + 1] and held(order, other[k], other[k + 1]))
        other[place:place + 2] = [other[place + 1], other[place]]
        self.assertFalse(weaves(BOOK, order, history, other))


class NormalTest(unittest.TestCase):
    def test_written_out(self):
        a, b, c = DEEDS[0], DEEDS[2], DEEDS[4]
        self.assertEqual(normal(BOOK, [], [c, b, a]), [a, b, c])
        self.assertEqual(normal(BOOK, [(B, C)], [c, b, a]), [a, c, b])
        self.assertEqual(normal(BOOK, [(A, C)], [c, b, a]), [b, c, a])
        self.assertEqual(normal(BOOK, PAIRS, [c, b, a]), [c, b, a])
        self.assertEqual(normal(BOOK, [], []), [])

    def test_equal_procedures_and_other_bits_or_integers(self):
        deeds = [(0, [1, 0], -1), (0, [1, 0], 3), (0, [1, 1, 0], -9), (0, [1, 1, 1, 0], -20), (0, [0], 10 ** 59)]
        for order in itertools.permutations(deeds):
            self.assertEqual(normal(BOOK, [], list(order)), sorted(deeds))
        self.assertEqual(sorted(deeds)[0], deeds[4])

    def test_the_least_of_all_weavings(self):
        for _, order, history in random_cases(250, 6):
            every = all_weavings(order, history)
            for other in every[:12]:
                self.assertEqual(normal(BOOK, order, other), min(every))

    def test_the_order_of_all_pairs_and_the_empty_order(self):
        for source, _, history in random_cases(40, 9):
            self.assertEqual(normal(BOOK, PAIRS, history), history)
            self.assertEqual(normal(BOOK, [], history), sorted(history))

    def test_210_deeds(self):
        source = random.Random(3)
        history = [source.choice(DEEDS) for _ in range(210)]
        for order in ([], PAIRS, [(A, A), (B, C), (C, D)]):
            found = normal(BOOK, order, history)
            self.assertEqual(sorted(found), sorted(history))
            self.assertEqual(normal(BOOK, order, found), found)
            self.assertTrue(weaves(BOOK, order, found[:105], found[:105]))
        self.assertEqual(normal(BOOK, [(A, A)], [DEEDS[0]] * 210), [DEEDS[0]] * 210)

    def test_the_lists_are_new(self):
        deed = (0, [1, 0], 4)
        history = [deed, deed, (1, [0], 0)]
        kept = copy.deepcopy(history)
        found = normal(BOOK, [(A, B)], history)
        self.assertEqual(found, kept)
        self.assertEqual(len({id(bits) for _, bits, _ in [*found, deed]}), 4)
        spoil(found)
        self.assertEqual(history, kept)


class ErrorTest(unittest.TestCase):
    def test_no_order(self):
        for order in (
            None, (), ((A, B),), 0, "", {}, {(A, B): 0}, True, [None], [A], [(A,)], [(A, B, C)], [[A, B]], [([0, 0], B)],
            [(A, [0, 1])], [(A, B), (A, B)], [(A, C), (A, B)], [(B, A)], [(A, B), (C, A)], [(A, (3, 0))], [((-1, 0), A)],
            [(A, (0, 2))], [(A, (0, True))], [((False, 0), B)], [((0, False), (0, 0))], [(A, (0,))], [(A, "01")], [(A, B), None],
            [A, B], [(A, (1, 0, 0))],
        ):
            for wrong in ([], None, [None]):
                with self.subTest(order=order):
                    with self.assertRaises(NoOrder):
                        weaves(BOOK, order, wrong, wrong)
                    with self.assertRaises(NoOrder):
                        normal(BOOK, order, wrong)
            with self.assertRaises(NoOrder):
                alike_weavings(BOOK, order)

    def test_classes_without_runs_may_occur(self):
        order = [(A, NONE), (NONE, NONE)]
        self.assertTrue(weaves(BOOK, order, DEEDS[:3], DEEDS[2::-1]))
        self.assertEqual(normal(BOOK, order, DEEDS[2::-1]), sorted(DEEDS[:3]))

    def test_no_history(self):
        good = DEEDS[:2]
        for wrong, index in ((None, -1), ((), -1), (tuple(good), -1), ("", -1), ({}, -1), (0, -1), ([None], 0), ([*good, (0, [], 0)], 2),
                             ([DEEDS[0], (0, [0], True), None], 1), ([[0, [0], 0]], 0), ([*good, (3, [0], 0)], 2)):
            for other in (good, None, [None, None]):
                with self.subTest(wrong=wrong):
                    with self.assertRaises(NoHistory) as caught:
                        weaves(BOOK, [], wrong, other)
                    self.assertEqual(caught.exception.index, index)
            for call in (lambda: weaves(BOOK, [], good, wrong), lambda: normal(BOOK, [], wrong)):
                with self.assertRaises(NoHistory) as caught:
                    call()
                self.assertEqual(caught.exception.index, index)

    def test_the_arguments_stay(self):
        order, one, other = [(A, B)], copy.deepcopy(DEEDS), copy.deepcopy(DEEDS[::-1])
        weaves(BOOK, order, one, other)
        normal(BOOK, order, other)
        self.assertEqual((order, one, other), ([(A, B)], DEEDS, DEEDS[::-1]))


if __name__ == "__main__":
    unittest.main()
