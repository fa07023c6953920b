"""Point 31: senders."""

import copy
import itertools
import random
import unittest

import reference
from samples import spoil
from sharedboard.books import Book
from sharedboard.errors import NoClasses, NoSender, NoState
from sharedboard.senders import Sender, free
from sharedboard.tables import table

A, B, C, NONE = (0, 0), (1, 0), (1, 1), (0, 1)


def small_book():
    """Return a book whose classes but (0, 1) have runs."""
    return Book(1, [[("set", 0, [0, 1, 1])], [("either", [], [("end", 1)])]])


class OrdinaryTest(unittest.TestCase):
    def test_one_state(self):
        sender = Sender(small_book(), [[(A, 0), (C, 0)]])
        self.assertEqual(sender.states(), 1)
        self.assertEqual(sender.ways(0), [(A, 0), (C, 0)])

    def test_two_states_and_one_class_to_both(self):
        ways = [[(A, 0), (A, 1), (B, 1)], [(C, 0)]]
        sender = Sender(small_book(), ways)
        self.assertEqual(sender.states(), 2)
        self.assertEqual([sender.ways(0), sender.ways(1)], ways)

    def test_behind(self):
        sender = Sender(small_book(), [[(A, 0), (A, 1), (B, 1)], [(C, 0)]])
        self.assertEqual(sender.behind(0, []), [0])
        self.assertEqual(sender.behind(1, []), [1])
        self.assertEqual(sender.behind(0, [A]), [0, 1])
        self.assertEqual(sender.behind(0, [B]), [1])
        self.assertEqual(sender.behind(0, [C]), [])
        self.assertEqual(sender.behind(1, [A]), [])
        self.assertEqual(sender.behind(0, [A, A]), [0, 1])
        self.assertEqual(sender.behind(0, [A, B]), [1])
        self.assertEqual(sender.behind(0, [A, C]), [0])
        self.assertEqual(sender.behind(0, [B, A]), [])
        self.assertEqual(sender.behind(0, [B, A, A]), [])
        self.assertEqual(sender.behind(1, [C, A, C, A]), [0, 1])
        self.assertEqual(sender.behind(0, [NONE]), [])
        self.assertEqual(sender.behind(0, [A] * 210), [0, 1])

    def test_behind_by_the_words(self):
        for seed in range(30):
            source = random.Random(seed)
            every = [(cls, state) for cls in (A, B, C) for state in (0, 1)]
            ways = [sorted(source.sample(every, source.randint(1, 4))) for _ in range(2)]
            sender = Sender(small_book(), ways)
            for length in range(4):
                for classes in itertools.product((A, B, C, NONE), repeat=length):
                    for state in (0, 1):
                        paths = [path for path in itertools.product((0, 1), repeat=length)
                                 if all((cls, there) in ways[here]
                                        for here, cls, there in zip((state, *path), classes, path))]
                        ends = sorted({(state, *path)[-1] for path in paths})
                        self.assertEqual(sender.behind(state, list(classes)), ends)

    def test_free(self):
        sender = free(small_book())
        self.assertEqual(sender.states(), 1)
        self.assertEqual(sender.ways(0), [(A, 0), (B, 0), (C, 0)])
        self.assertTrue(sender == Sender(small_book(), [[(A, 0), (B, 0), (C, 0)]]))

    def test_free_of_random_books(self):
        for seed in range(80):
            cells, procedures = 1 + seed % 3, 1 + seed % 3
            book = Book(cells, reference.random_bodies(seed, cells, procedures))
            running = [cls for cls, space in sorted(table(book).items()) if len(space)]
            if running:
                self.assertEqual(free(book).ways(0), [(cls, 0) for cls in running])
            else:
                self.assertRaises(NoSender, free, book)

    def test_free_of_a_book_without_runs(self):
        for body in ([("call", 0, [0, 0, 0], [[], []])], [("again", []), ("call", 0, [0, 0, 0], [[], []]), ("end", 1)]):
            with self.assertRaises(NoSender) as caught:
                free(Book(1, [body]))
            self.assertEqual(caught.exception.state, 0)

    def test_equal_senders(self):
        book = small_book()
        ways = [[(A, 0), (B, 1)], [(C, 0)]]
        self.assertTrue(Sender(book, ways) == Sender(small_book(), ways))
        self.assertFalse(Sender(book, ways) != Sender(small_book(), ways))
        self.assertFalse(Sender(book, ways) == Sender(book, [ways[0], [(C, 1)]]))
        self.assertFalse(Sender(book, [[(A, 0)]]) == Sender(book, [[(A, 0)], [(A, 0)]]))
        other = Book(1, [*small_book().bodies(), []])
        self.assertFalse(Sender(book, ways) == Sender(other, ways))

    def test_a_sender_does_not_change(self):
        ways = [[(A, 0), (B, 1)], [(C, 0)]]
        kept = copy.deepcopy(ways)
        sender = Sender(small_book(), ways)
        self.assertEqual(ways, kept)
        spoil(ways)
        self.assertEqual([sender.ways(0), sender.ways(1)], kept)
        sender.ways(0).append((C, 0))
        sender.ways(1).clear()
        sender.behind(0, [A]).append(7)
        classes = [A, A]
        sender.behind(0, classes)
        self.assertEqual(classes, [A, A])
        self.assertEqual([sender.ways(0), sender.ways(1)], kept)
        self.assertIsNot(sender.ways(0), sender.ways(0))


class ErrorTest(unittest.TestCase):
    def check(self, ways, state):
        with self.subTest(ways=ways), self.assertRaises(NoSender) as caught:
            Sender(small_book(), ways)
        self.assertEqual(caught.exception.state, state)

    def test_no_list_of_one_or_two_items(self):
        good = [(A, 0)]
        for ways in (None, (), (good,), [], [good] * 3, 0, "", {}, {0: good}, True):
            self.check(ways, -1)

    def test_the_first_item_that_is_no_list_of_ways(self):
        good = [(A, 0), (B, 1)]
        wrong = [
            None, (), tuple(good), 0, "", {}, {(A, 0): 0}, [],
            [None], [A], [(A,)], [(A, 0, 0)], [[A, 0]], [([0, 0], 0)], [(A, 2)], [(A, -1)], [(A, True)], [(A, False)],
            [(A, None)], [(A, "0")], [((0, True), 0)], [((False, 0), 0)], [((2, 0), 0)], [((0, 2), 0)], [((0,), 0)],
            [(NONE, 0)], [(A, 0), (NONE, 0)], [(A, 1), (A, 0)], [(B, 0), (A, 0)], [(A, 0), (A, 0)], [(A, 0), (B, 0), (B, 0)],
            [(C, 0), (B, 1)], [(A, 0), None], [(None, 0)],
        ]
        for value in wrong:
            self.check([value, good], 0)
            self.check([value, value], 0)
            self.check([good, value], 1)
        self.check([good], 0)
        self.check([[(A, 1)]], 0)

    def test_no_state(self):
        sender = Sender(small_book(), [[(A, 0)]])
        for state in (1, 2, -1, 10 ** 30, True, False, None, "0", [0], (0,), {}):
            with self.subTest(state=state):
                with self.assertRaises(NoState):
                    sender.ways(state)
                with self.assertRaises(NoState):
                    sender.behind(state, [])
                with self.assertRaises(NoState):
                    sender.behind(state, None)

    def test_no_classes(self):
        sender = free(small_book())
        for classes in (None, (), (A,), A, 0, "", {}, {A: 0}, [None], [A, None], [[0, 0]], [(2, 0)], [(0, 2)], [(0,)],
                        [(True, 0)], [A, (0, False)], [0], ["00"], True, [(A, 0)]):
            with self.subTest(classes=classes), self.assertRaises(NoClasses):
                sender.behind(0, classes)


if __name__ == "__main__":
    unittest.main()
