"""Points 35 and 38: conflicts, and weavings that always end alike."""

import itertools
import random
import unittest

import reference
from equationtools import short_deeds
from sharedboard.books import Book
from sharedboard.deeds import deed_class, done
from sharedboard.errors import NoClass, NoOrder
from sharedboard.orders import alike_weavings, conflict_shown, conflicts, weaves
from sharedboard.tables import table

A, B = (0, 0), (1, 0)


def end(book, board, *deeds):
    """Return the board behind deeds, executed by the words of point 14."""
    for procedure, bits, n in deeds:
        board = reference.executed(book.cells(), book.bodies(), procedure, bits, board, n)[1]
    return board


def conflict_at(book, board, one, other):
    return end(book, board, one, other) != end(book, board, other, one)


def class_pairs(book):
    classes = [(p, way) for p in range(len(book)) for way in (0, 1)]
    return [(one, other) for one in classes for other in classes if one <= other]


def few_deeds(book, most_bits=3):
    """Return a dict from the classes to some deeds with short runs."""
    return {
        (p, way): [deed for _, deed in short_deeds(book.cells(), book.bodies(), (p, way), most_bits, 8)][:6]
        for p in range(len(book)) for way in (0, 1)
    }


def conflicts_by_trying(book, most):
    """Return a dict from the pairs that conflict behind short histories to the least number of deeds of these."""
    deeds = few_deeds(book)
    every = [deed for found in deeds.values() for deed in found]
    start = (0,) * book.cells()
    layer, seen, found = {start}, set(), {}
    for many in range(most + 1):
        for pair in class_pairs(book):
            tried = itertools.product(layer, deeds[pair[0]], deeds[pair[1]])
            if pair not in found and any(conflict_at(book, *case) for case in tried):
                found[pair] = many
        seen |= layer
        layer = {end(book, board, deed) for board in layer for deed in every[:8]} - seen
    return found


def late_book():
    """Return a book in which deeds of B conflict only if cell 1 is not 0, which takes two deeds of A."""
    return Book(3, [
        [("set", 1, [0, 1, 0, 0, 0]), ("set", 0, [1, 0, 0, 0, 0])],
        [("either", [("set", 2, [0, 0, 1, 1, 0])], [("set", 2, [0, 0, 0, 2, 0])])],
    ])


def slow_book(seed):
    """Return a random book with few constants, so that deeds often agree at the start and later not."""
    source = random.Random(seed)

    def command():
        row = [source.choice([0, 0, 0, 0, 1]), *[source.choice([0, 0, 1, 2]) for _ in range(3)], 0]
        return ("set", source.randrange(3), row)

    return Book(3, [[("either", [command()], [command(), ("end", 1)]), command()], [command()]])


def some_books():
    for seed in range(60):
        cells, procedures = 1 + seed % 3, 1 + seed // 3 % 3
        yield Book(cells, reference.random_bodies(seed, cells, procedures, 2))
        yield slow_book(seed)


def never_book():
    return Book(2, [[("call", 0, [0, 0, 0, 0], [[], []])]])


class ConflictsTest(unittest.TestCase):
    def test_written_out(self):
        add = Book(1, [[("set", 0, [0, 1, 1])]])
        self.assertEqual(conflicts(add), [])
        put = Book(1, [[("set", 0, [0, 0, 1])]])
        self.assertEqual(conflicts(put), [(A, A)])
        both = Book(1, [[("set", 0, [0, 1, 1])], [("set", 0, [0, 0, 1])]])
        self.assertEqual(conflicts(both), [(A, B), (B, B)])
        ways = Book(1, [[("set", 0, [0, 1, 1]), ("either", [], [("set", 0, [0, 2, 0]), ("end", 1)])]])
        # "Add" and "add, then double" differ in their orders; so do two of the latter.
        self.assertEqual(conflicts(ways), [((0, 0), (0, 1)), ((0, 1), (0, 1))])

    def test_only_boards_behind_histories_count(self):
        # Deeds of both classes conflict where cell 0 is not 0, but it never is.
        book = Book(2, [[("set", 1, [0, 1, 1, 0])], [("set", 1, [0, 0, 2, 0])]])
        self.assertEqual(conflicts(book), [])
        self.assertIsNone(conflict_shown(book, A, B))
        self.assertEqual(conflicts(Book(2, [*book.bodies(), [("set", 0, [1, 0, 0, 0])]])), [(A, B), (A, (2, 0))])

    def test_classes_without_runs(self):
        found = conflicts(Book(1, [[("set", 0, [0, 0, 1])], [("call", 1, [0, 0, 0], [[], []])], [("end", 1)]]))
        self.assertEqual(found, [(A, A)])
        self.assertEqual(conflicts(never_book()), [])

    def test_random_books_by_trying(self):
        seen = {}
        for book in some_books():
            found = conflicts(book)
            tried = conflicts_by_trying(book, 2)
            self.assertEqual(found, sorted(set(found)))
            for pair in class_pairs(book):
                told = conflict_shown(book, *pair)
                self.assertEqual(told is not None, pair in found)
                if told is None:
                    self.assertNotIn(pair, tried)
                    continue
                history, one, other = told
                self.assertEqual((deed_class(book, one), deed_class(book, other)), pair)
                self.assertTrue(conflict_at(book, done(book, history), one, other))
                self.assertLessEqual(len(history), tried.get(pair, len(history)))
                seen[len(history)] = seen.get(len(history), 0) + 1
        self.assertGreater(min(seen[0], seen[1]), 5)

    def test_a_conflict_that_shows_only_behind_two_deeds(self):
        book = late_book()
        self.assertEqual(conflicts(book), [(A, B), (B, B)])
        self.assertEqual(len(conflict_shown(book, A, B)[0]), 1)
        history, one, other = conflict_shown(book, B, B)
        self.assertEqual([deed_class(book, deed) for deed in history], [A, A])
        self.assertTrue(conflict_at(book, done(book, history), one, other))
        self.assertEqual(conflicts_by_trying(book, 2), {(A, B): 1, (B, B): 2})

    def test_what_is_returned_is_new(self):
        book = late_book()
        first = conflicts(book)
        first.clear()
        self.assertEqual(conflicts(book), [(A, B), (B, B)])
        told = conflict_shown(book, B, B)
        lists = [told[0], told[1][1], told[2][1], *[bits for _, bits, _ in told[0]]]
        self.assertEqual(len({id(found) for found in lists}), len(lists))

    def test_no_class(self):
        book = Book(1, [[("set", 0, [0, 0, 1])], []])
        self.assertIsNotNone(conflict_shown(book, A, A))
        for wrong in (None, 0, (), (0,), (0, 0, 0), [0, 0], (2, 0), (-1, 0), (0, 2), (0, -1), (0, True), (False, 0), "00", {}, ((0, 0),)):
            for pair in ((wrong, A), (A, wrong), (wrong, wrong)):
                with self.subTest(pair=pair), self.assertRaises(NoClass):
                    conflict_shown(book, *pair)
        for pair in ((B, A), ((0, 1), A), ((1, 1), (0, 1))):
            with self.assertRaises(NoClass):
                conflict_shown(book, *pair)
        self.assertIsNone(conflict_shown(book, (0, 1), (1, 1)))


class AlikeTest(unittest.TestCase):
    def test_written_out(self):
        both = Book(1, [[("set", 0, [0, 1, 1])], [("set", 0, [0, 0, 1])]])
        self.assertEqual(alike_weavings(both, [(A, B), (B, B)]), ("alike",))
        self.assertEqual(alike_weavings(both, [(A, A), (A, B), ((0, 1), B), (B, B)]), ("alike",))
        self.assertEqual(alike_weavings(never_book(), []), ("alike",))
        for order in ([], [(A, B)], [(B, B)], [(A, A), (B, B)]):
            word, one, other = alike_weavings(both, order)
            self.assertEqual((word, len(one), len(other)), ("apart", 2, 2))
            self.assertNotEqual(done(both, one), done(both, other))
            self.assertTrue(weaves(both, order, one, other))

    def test_random_books(self):
        lengths = []
        for book in some_books():
            found = conflicts(book)
            self.assertEqual(alike_weavings(book, found), ("alike",))
            self.assertEqual(alike_weavings(book, class_pairs(book)), ("alike",))
            for left in found:
                order = [pair for pair in class_pairs(book) if pair != left]
                word, one, other = alike_weavings(book, order)
                self.assertEqual(word, "apart")
                self.assertTrue(weaves(book, order, one, other))
                self.assertNotEqual(done(book, one), done(book, other))
                self.assertEqual(len(one), len(conflict_shown(book, *left)[0]) + 2)
                lengths.append(len(one))
            if found:
                shortest = min(len(conflict_shown(book, *pair)[0]) + 2 for pair in found)
                self.assertEqual(len(alike_weavings(book, [])[1]), shortest)
        self.assertGreater(max(lengths), 2)

    def test_the_least_number_of_deeds(self):
        book = late_book()
        self.assertEqual(len(alike_weavings(book, [])[1]), 3)
        self.assertEqual(len(alike_weavings(book, [(A, B)])[1]), 4)
        self.assertEqual(len(alike_weavings(book, [(B, B)])[1]), 3)
        self.assertEqual(alike_weavings(book, [(A, B), (B, B)]), ("alike",))

    def test_what_is_returned_is_new(self):
        book = late_book()
        _, one, other = alike_weavings(book, [(A, B)])
        lists = [one, other, *[bits for _, bits, _ in one], *[bits for _, bits, _ in other]]
        self.assertEqual(len({id(found) for found in lists}), len(lists))

    def test_no_order(self):
        for order in (None, [(B, A)], ((A, B),)):
            with self.assertRaises(NoOrder):
                alike_weavings(late_book(), order)

    def test_books_of_which_the_table_is_empty(self):
        self.assertFalse(any(len(space) for space in table(never_book()).values()))


if __name__ == "__main__":
    unittest.main()
