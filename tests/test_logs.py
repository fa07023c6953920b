"""Point 44: histories with the same end, and shorter ones."""

import copy
import itertools
import random
import unittest

import reference
from equationtools import corners, short_deeds
from samples import lists_in
from sharedboard.books import Book
from sharedboard.deeds import deed_class, done
from sharedboard.equations import strikes
from sharedboard.errors import NoDeeds, NoHistory, NoIndex, TooMany
from sharedboard.logs import pressed, same_end, struck, undone

A, B, C = (0, 0), (1, 0), (2, 0)
WRONG_HISTORIES = (
    (None, -1), ((), -1), ("", -1), ({}, -1), (0, -1), ([None], 0), ([(0, [], 1), (0, [0, 0], 1)], 1), ([(0, [], True)], 0),
    ([(0, [], 1), (3, [], 1)], 1), ([[0, [], 1]], 0), ([(0, [], 1), (0, (), 1)], 1),
)


def end(book, board, history):
    """Return the board behind a history, executed by the words of point 14."""
    for procedure, bits, n in history:
        board = reference.executed(book.cells(), book.bodies(), procedure, bits, board, n)[1]
    return board


def alike(book, one, other):
    return all(end(book, board, one) == end(book, board, other) for board in corners(book.cells()))


def small_book():
    """Return a book in which A adds n to cell 0, B sets it to n, and C exchanges both cells."""
    return Book(2, [
        [("set", 0, [0, 1, 0, 1])],
        [("set", 0, [0, 0, 0, 1])],
        [("set", 0, [0, 1, 1, 0]), ("set", 1, [0, 1, -1, 0]), ("set", 0, [0, 1, -1, 0])],
    ])


def a(n):
    return 0, [], n


def b(n):
    return 1, [], n


c = (2, [], 5)


def random_histories(many, most):
    """Yield random books with a history of each."""
    for seed in range(many):
        source = random.Random(seed)
        cells = source.randint(1, 3)
        bodies = reference.random_bodies(seed, cells, 2, 1)
        deeds = [deed for p in (0, 1) for way in (0, 1) for _, deed in short_deeds(cells, bodies, (p, way), 3, 6)[:12]]
        if deeds:
            yield source, Book(cells, bodies), [copy.deepcopy(source.choice(deeds)) for _ in range(source.randint(0, most))], deeds


class SameEndTest(unittest.TestCase):
    def test_written_out(self):
        book = small_book()
        for one, other, told in (
            ([], [], True), ([a(0)], [], True), ([a(1)], [], False), ([a(3), a(4)], [a(7)], True), ([a(3), b(4)], [b(4)], True),
            ([b(4), a(3)], [b(7)], True), ([b(4), a(3)], [b(4)], False), ([c, c], [], True), ([c], [], False), ([c, a(2), c], [a(2)], False),
            ([c, b(2), c, b(2)], [b(2), c, b(2), c], True), ([a(2), c, a(3), c], [c, a(3), c, a(2)], True),
        ):
            self.assertEqual(same_end(book, one, other), told)
            self.assertEqual(same_end(book, other, one), told)

    def test_equal_ends_from_the_start_only(self):
        book = Book(1, [[("set", 0, [0, 2, 0])], [("set", 0, [0, 0, 1])]])
        self.assertFalse(same_end(book, [a(0)], []))
        self.assertFalse(same_end(book, [a(0)], [b(0)]))
        self.assertEqual(done(book, [a(0)]), done(book, [b(0)]))

    def test_deeds_with_other_runs_and_the_same_effect(self):
        book = Book(1, [[("again", [("set", 0, [1, 1, 0])])], [("either", [("set", 0, [3, 1, 0])], [("set", 0, [0, 1, 1]), ("end", 1)])]])
        self.assertTrue(same_end(book, [(0, [1, 1, 1, 0], 9)], [(1, [0], -4)]))
        self.assertTrue(same_end(book, [(0, [1, 1, 1, 0], 9)], [(1, [1], 3)]))
        self.assertFalse(same_end(book, [(0, [1, 1, 0], 9)], [(1, [1], 3)]))
        self.assertTrue(same_end(book, [(0, [0], 9)], []))

    def test_random_histories(self):
        seen = {True: 0, False: 0}
        for source, book, history, _ in random_histories(300, 4):
            other = [*history]
            source.shuffle(other)
            other = other[:source.randint(max(0, len(other) - 1), len(other))]
            told = same_end(book, history, other)
            self.assertEqual(told, alike(book, history, other))
            seen[told] += 1
        self.assertGreater(min(seen.values()), 25)

    def test_ends_that_differ_by_very_much(self):
        big = 2 ** 61 - 1
        book = small_book()
        for n in (big, -big, big * (big + 2)):
            self.assertFalse(same_end(book, [b(n)], [b(0)]))
            self.assertTrue(same_end(book, [b(n)], [b(n - 7), a(7)]))

    def test_105_deeds_on_each_side(self):
        book = small_book()
        one = [a(k) for k in range(105)]
        self.assertTrue(same_end(book, one, one[::-1]))
        self.assertFalse(same_end(book, one, one[1:] + [a(1)]))

    def test_no_history(self):
        book = small_book()
        for wrong, index in WRONG_HISTORIES:
            for pair in ((wrong, []), ([a(1)], wrong), (wrong, [None, None, None])):
                with self.subTest(pair=pair), self.assertRaises(NoHistory) as caught:
                    same_end(book, *pair)
                self.assertEqual(caught.exception.index, index)


class PressedTest(unittest.TestCase):
    def test_written_out(self):
        book = small_book()
        for history, told in (
            ([], []), ([a(1)], [a(1)]), ([a(0)], []), ([a(1), a(-1)], []), ([a(1), b(2)], [b(2)]), ([c, c], []), ([c, c, c], [c]),
            ([a(1), c, c, a(-1), b(9), a(2)], [b(9), a(2)]), ([b(1), a(1), b(2)], [b(2)]), ([a(3), a(4), a(-3)], [a(4)]),
        ):
            self.assertEqual(pressed(book, history), told)

    def test_of_several_the_one_whose_indexes_come_first(self):
        book = Book(1, [[("again", [("set", 0, [1, 1, 0])])], [("set", 0, [0, 1, 1])]])
        history = [(0, [1, 0], 5), (1, [], -1), (1, [], 1), (0, [1, 0], 6)]
        # Each of the deeds 0, 2 and 3 adds 1; two of them remain.
        self.assertEqual(pressed(book, history), [history[0], history[2]])
        self.assertEqual(pressed(book, history[1:]), [history[2]])
        self.assertEqual(pressed(book, [history[1], history[3], history[2]]), [history[3]])

    def test_against_all_sublists(self):
        shorter = 0
        for _, book, history, _ in random_histories(130, 6):
            for many in range(len(history) + 1):
                lists = itertools.combinations(range(len(history)), many)
                fitting = [indexes for indexes in lists if alike(book, [history[k] for k in indexes], history)]
                if fitting:
                    break
            found = pressed(book, history)
            self.assertEqual(found, [history[k] for k in fitting[0]])
            shorter += len(found) < len(history)
        self.assertGreater(shorter, 30)

    def test_ten_deeds_and_eleven(self):
        book = small_book()
        history = [a(2 ** k) for k in range(10)]
        self.assertEqual(pressed(book, history), history)
        self.assertEqual(pressed(book, [*history[:9], a(-511)]), [])
        self.assertEqual(pressed(book, [*history[:9], a(-1)]), history[1:9])
        for many in (11, 12, 210):
            with self.assertRaises(TooMany) as caught:
                pressed(book, [a(1)] * many)
            self.assertEqual(caught.exception.many, many)

    def test_the_lists_are_new(self):
        book = small_book()
        deed = (0, [], 4)
        history = [deed, c, deed]
        found = pressed(book, history)
        self.assertEqual(found, history)
        self.assertEqual(len({id(item) for item in [*lists_in(found), *lists_in(deed), history]}), 6)
        found[0][1].append(1)
        self.assertEqual(history, [(0, [], 4), c, (0, [], 4)])

    def test_no_history_goes_ahead_of_too_many(self):
        book = small_book()
        for wrong, index in (*WRONG_HISTORIES, ([a(1)] * 11 + [None], 11)):
            with self.subTest(wrong=wrong), self.assertRaises(NoHistory) as caught:
                pressed(book, wrong)
            self.assertEqual(caught.exception.index, index)


def strike_book():
    """Return a book of which deeds strike one another.

    Procedure 0 way 0: nothing; way 1: sets cell 0 to n. Procedure 1: the sign of cell 0. Procedure 2 way 0: cell 1
    twice as much, way 1: cell 1 is n.
    """
    return Book(2, [
        [("either", [], [("set", 0, [0, 0, 0, 1]), ("end", 1)])],
        [("set", 0, [0, -1, 0, 0])],
        [("either", [("set", 1, [0, 0, 2, 0])], [("set", 1, [0, 0, 0, 1]), ("end", 1)])],
    ])


def nothing(n=0):
    return 0, [0], n


def put(n):
    return 0, [1], n


SIGN = (1, [], 0)
TWICE = (2, [0], 0)


def place(n):
    return 2, [1], n


def struck_by_the_words(book, history):
    """Strike by the words of point 44."""
    words = strikes(book)
    again = True
    while again:
        again = False
        for i in range(len(history)):
            one = deed_class(book, history[i])
            both = words[one, deed_class(book, history[i + 1])] if i + 1 < len(history) else []
            gone = None
            if "home" in words[(one,)]:
                gone = [i]
            elif "undo" in both:
                gone = [i, i + 1]
            elif "last" in both:
                gone = [i]
            elif "first" in both:
                gone = [i + 1]
            if gone is not None:
                history = [deed for k, deed in enumerate(history) if k not in gone]
                again = True
                break
    return history


class StruckTest(unittest.TestCase):
    def check(self, book, history, told):
        self.assertEqual(struck(book, history), told)
        self.assertTrue(same_end(book, history, told))

    def test_each_rule(self):
        book = strike_book()
        self.check(book, [], [])
        self.check(book, [nothing(4)], [])
        self.check(book, [put(1)], [put(1)])
        self.check(book, [SIGN, SIGN], [])
        self.check(book, [put(1), put(2)], [put(2)])
        self.check(book, [SIGN, put(2)], [put(2)])
        self.check(book, [put(2), SIGN], [put(2), SIGN])
        self.check(book, [TWICE, TWICE, place(3), TWICE], [place(3), TWICE])

    def test_first(self):
        # A deed of B leaves the 7 that a deed of A has set.
        book = Book(1, [[("set", 0, [7, 0, 0])], [("set", 0, [-7, 2, 0])]])
        self.assertEqual(strikes(book)[A, B], ["first", "swap"])
        self.check(book, [a(0), b(0), b(3), b(0)], [a(0)])
        self.check(book, [b(0), a(0), b(0)], [a(0)])
        self.check(book, [b(0), b(1)], [b(0), b(1)])

    def test_the_order_of_the_rules(self):
        # Deeds that leave all as it is have all words: "home" strikes one, so none is left in the end.
        book = Book(1, [[], [("set", 0, [0, 0, 1])], [("set", 0, [5, 0, 0])]])
        self.check(book, [a(1)] * 5, [])
        # Both "last" and "first" hold of equal settings: "last" strikes the one ahead.
        self.assertEqual(strikes(book)[C, C], ["first", "last", "swap"])
        self.check(book, [(2, [], 1), (2, [], 2)], [(2, [], 2)])
        # "Undo" goes ahead of "last" and "first".
        undo = Book(1, [[("set", 0, [0, -1, 0])]])
        self.assertEqual(strikes(undo)[A, A], ["swap", "undo"])
        self.check(undo, [a(1), a(2), a(3)], [a(3)])

    def test_it_begins_anew_at_0(self):
        book = strike_book()
        # Behind striking the two signs in the middle, the outer ones are neighbours.
        self.check(book, [SIGN, TWICE, TWICE, SIGN], [SIGN, TWICE, TWICE, SIGN])
        self.check(book, [TWICE, SIGN, nothing(), SIGN, place(1)], [place(1)])
        self.check(book, [put(1), SIGN, nothing(), SIGN, put(2)], [put(2)])
        # Striking 0 and 1 first leaves the third sign; striking 1 and 2 first would leave the first one.
        self.check(book, [(1, [], 1), (1, [], 2), (1, [], 3)], [(1, [], 3)])
        self.check(book, [(1, [], 1), nothing(), (1, [], 2), (1, [], 3), put(4), (1, [], 5)], [put(4), (1, [], 5)])

    def test_by_the_words(self):
        changed = 0
        for _, book, history, _ in random_histories(150, 8):
            found = struck(book, history)
            self.assertEqual(found, struck_by_the_words(book, history))
            self.assertTrue(alike(book, found, history))
            self.assertEqual(struck(book, found), found)
            changed += found != history
        self.assertGreater(changed, 40)
        source = random.Random(1)
        every = [nothing(1), nothing(2), put(1), put(2), SIGN, (1, [], 7), TWICE, (2, [0], 3), place(1), place(2)]
        for _ in range(60):
            history = [source.choice(every) for _ in range(source.randint(0, 12))]
            found = struck(strike_book(), history)
            self.assertEqual(found, struck_by_the_words(strike_book(), history))
            self.assertTrue(same_end(strike_book(), found, history))

    def test_210_deeds(self):
        book = strike_book()
        self.check(book, [SIGN, TWICE] * 105, [SIGN, TWICE] * 105)
        self.check(book, [SIGN] * 210, [])
        self.check(book, [SIGN] * 209, [SIGN])
        self.check(book, [TWICE] * 209 + [place(3)], [place(3)])

    def test_the_lists_are_new(self):
        book = strike_book()
        deed = (2, [0], 4)
        history = [deed, deed]
        found = struck(book, history)
        self.assertEqual(found, history)
        self.assertEqual(len({id(item) for item in [*lists_in(found), *lists_in(deed), history]}), 5)
        found[0][1].append(1)
        self.assertEqual(history, [(2, [0], 4), (2, [0], 4)])

    def test_no_history(self):
        for wrong, index in WRONG_HISTORIES:
            with self.subTest(wrong=wrong), self.assertRaises(NoHistory) as caught:
                struck(small_book(), wrong)
            self.assertEqual(caught.exception.index, index)


class UndoneTest(unittest.TestCase):
    def test_written_out(self):
        book = small_book()
        self.assertEqual(undone(book, [a(0)], 0, [b(1)]), [])
        self.assertEqual(undone(book, [a(3), b(5)], 0, [c]), [])
        self.assertEqual(undone(book, [a(3)], 0, [b(1), a(-3)]), [a(-3)])
        self.assertEqual(undone(book, [a(3), a(4)], 0, [a(-1), a(-2)]), [a(-1), a(-2)])
        self.assertEqual(undone(book, [a(3), c], 0, [a(-3), c]), [c, a(-3), c])
        self.assertIsNone(undone(book, [b(3)], 0, [a(-3), c, b(0)]))
        self.assertIsNone(undone(book, [a(4), c], 0, [a(-1)]))

    def test_a_deed_used_again(self):
        book = small_book()
        self.assertEqual(undone(book, [a(4)], 0, [a(-2)]), [a(-2), a(-2)])
        self.assertEqual(undone(book, [a(3)], 0, [a(-1)]), [a(-1)] * 3)
        self.assertIsNone(undone(book, [a(4)], 0, [a(-1)]))
        self.assertEqual(undone(book, [c], 0, [c]), [c])

    def test_the_order_of_the_lists(self):
        book = small_book()
        self.assertEqual(undone(book, [a(3)], 0, [a(-1), a(-2), a(-3)]), [a(-3)])
        self.assertEqual(undone(book, [a(3)], 0, [a(-2), a(-1)]), [a(-2), a(-1)])
        self.assertEqual(undone(book, [a(3)], 0, [a(1), a(-2), a(-1), (0, [], -2)]), [a(-2), a(-1)])
        self.assertEqual(undone(book, [a(6)], 0, [a(-1), a(-2), a(-3), a(-4), a(1), a(9)]), [a(-2), a(-4)])

    def test_the_deed_at_the_index(self):
        book = small_book()
        history = [a(1), b(2), a(4), c, a(8)]
        told = [undone(book, history, index, [a(-4), c, a(-8)]) for index in range(5)]
        self.assertEqual(told, [[], None, [c, a(-4), c], None, [a(-8)]])

    def test_against_all_lists(self):
        seen = set()
        for source, book, history, deeds in random_histories(90, 4):
            if not history:
                continue
            given = [source.choice(deeds) for _ in range(source.randint(1, 4))]
            index = source.randrange(len(history))
            goal = history[:index] + history[index + 1:]
            expected = None
            for many in range(4):
                lists = itertools.product(range(len(given)), repeat=many)
                fitting = [indexes for indexes in lists if alike(book, history + [given[k] for k in indexes], goal)]
                if fitting:
                    expected = [given[k] for k in fitting[0]]
                    break
            self.assertEqual(undone(book, history, index, given), expected)
            seen.add(None if expected is None else len(expected))
        self.assertTrue({None, 0, 1} <= seen, seen)

    def test_the_lists_are_new(self):
        book = small_book()
        given = [a(-2)]
        found = undone(book, [a(4)], 0, given)
        self.assertEqual(len({id(item) for item in [*lists_in(found), *lists_in(given)]}), 5)

    def test_long_histories(self):
        book = small_book()
        history = [a(10 ** 59 + k) for k in range(203)]
        self.assertEqual(undone(book, history, 7, [a(-7), c, b(0), a(1), a(-10 ** 59), c]), [a(-7), a(-10 ** 59)])

    def test_errors_in_their_order(self):
        book = small_book()
        for wrong, index in WRONG_HISTORIES:
            for others in ((0, [a(1)]), (None, None)):
                with self.subTest(wrong=wrong), self.assertRaises(NoHistory) as caught:
                    undone(book, wrong, *others)
                self.assertEqual(caught.exception.index, index)
        for index in (True, False, -1, 2, 10 ** 30, None, "0", [0], (0,), {}):
            for deeds in ([a(1)], None, []):
                with self.subTest(index=index), self.assertRaises(NoIndex):
                    undone(book, [a(1), a(2)], index, deeds)
        with self.assertRaises(NoIndex):
            undone(book, [], 0, None)
        for deeds in (None, (), (a(1),), [], [a(1)] * 7, [None], [a(1), None], [(0, [], True)], [(0, [0], 1)], 0, "", {}, a(1), True):
            with self.subTest(deeds=deeds), self.assertRaises(NoDeeds):
                undone(book, [a(1), a(2)], 1, deeds)
        self.assertEqual(undone(book, [a(6)], 0, [a(-1)] * 5 + [a(-6)]), [a(-6)])

    def test_the_arguments_stay(self):
        book = small_book()
        history, deeds = [a(1), c, a(4)], [a(-4), c]
        undone(book, history, 0, deeds)
        pressed(book, history)
        struck(book, history)
        same_end(book, history, deeds)
        self.assertEqual((history, deeds), ([a(1), c, a(4)], [a(-4), c]))


if __name__ == "__main__":
    unittest.main()
