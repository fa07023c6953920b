"""Points 4 and 5: all of it within the limits, on books that fill them."""

import sys
import unittest

from sharedboard.bases import basis_runs, board_space
from sharedboard.books import Book
from sharedboard.deeds import boards, deed_class, deed_matrix, done
from sharedboard.equations import decide, equation_fault, holds_fault, strikes
from sharedboard.errors import BoardError
from sharedboard.reach import decide_there, history_fault, reach, settle, sure_fault
from sharedboard.runs import played, run_matrix
from sharedboard.senders import Sender, free
from sharedboard.spaces import Space, vanishing
from sharedboard.tables import body_space, table, table_fault


def call(procedure, row, first=(), second=()):
    return ("call", procedure, row, [list(first), list(second)])


def full_book():
    """Return a book of three cells and three procedures of twelve statements, with calls in loops."""
    rows = [[1, 2, 0, -1, 3], [0, 1, 1, 0, -9], [9, 0, -3, 1, 1], [-2, 0, 1, 1, 0]]
    first = [
        ("again", [call(1, rows[0], [("set", 0, rows[1])], [("carry", rows[2])]), call(2, rows[1])]),
        ("keep", [1], [("again", [call(0, rows[2]), ("set", 2, rows[0])])]),
        ("either", [("end", 1)], [call(1, rows[3])]),
    ]
    second = [
        ("again", [("either", [call(0, rows[1]), ("end", 1)], [("set", 2, rows[2])])]),
        ("keep", [0, 2], [("either", [call(2, rows[0])], [("end", 0)])]),
        call(2, rows[3], [("set", 1, rows[0])], [("end", 1)]),
    ]
    third = [
        ("either", [("set", 0, rows[0])], [("again", [call(1, rows[2]), call(2, rows[0])])]),
        ("set", 2, rows[3]),
        ("keep", [], [("again", [call(0, rows[3])]), ("either", [("end", 1)], [])]),
        ("carry", rows[1]),
    ]
    return Book(3, [first, second, third])


def long_book():
    """Return a book of three cells whose runs of procedure 0 have hundreds and thousands of commands."""
    rows = [[1, 2, 0, -1, 3], [0, 1, 1, 0, -9], [9, 0, -3, 1, 1], [-2, 0, 1, 1, 0]]
    commands = [("set", 0, rows[0]), ("set", 1, rows[1]), ("set", 2, rows[2]), ("carry", rows[3])]
    calls = [call(2, row) for row in rows]
    return Book(3, [
        [("either", [call(1, rows[0])], [call(0, row) for row in (rows + rows)])],
        [*(calls + calls)[:7], ("keep", [], calls)],
        [*(commands + commands)[:7], ("keep", [], commands)],
    ])


class FullTest(unittest.TestCase):
    def check(self, book, one, other):
        found = table(book)
        self.assertIsNone(table_fault(book, found))
        for cls in (one, other):
            self.assertTrue(body_space(book, found, cls) == found[cls])
            runs = basis_runs(book, cls)
            matrices = [run_matrix(book, cls[0], bits) for bits in runs]
            self.assertTrue(Space(25, [matrix for _, matrix, _ in matrices]) == found[cls])
            self.assertEqual([way for way, _, _ in matrices], [cls[1]] * len(runs))
            deeds = [(cls[0], bits, 10 ** 60 - 1) for bits in runs]
            space = board_space(book, cls)
            for deed in deeds:
                self.assertEqual(deed_class(book, deed), cls)
                self.assertIn(deed_matrix(book, deed), space)
            self.assertEqual(list(boards(book, deeds))[-1], done(book, deeds))
        for equation in (([one, other], [0, 1], [1, 0], [0, 1, 2]), ([one], [0], [], [2]), ([other, other], [0], [1], [1])):
            word, told = decide(book, equation)
            if word == "deeds":
                self.assertIsNone(equation_fault(book, equation, told))
                self.assertEqual(holds_fault(book, [equation], found), ("equation", 0))
        self.assertEqual(len(strikes(book)), 42)
        for sender in (free(book), Sender(book, [[(one, 0), (other, 1)], [(one, 0)]])):
            claims = [[[0, 1, -1, 0]] * 4 for _ in range(sender.states())]
            word, told = settle(book, sender, claims)
            self.assertEqual(word, "history")
            self.assertIsNone(history_fault(book, sender, claims, told))
            self.assertIsNone(sure_fault(book, sender, [[]] * sender.states(), reach(book, sender)))
            there = decide_there(book, sender, 0, ([one, other], [0, 1], [1, 0], [0, 1, 2]))
            self.assertIn(there[0], ("breaks", "holds"))

    def test_a_full_book(self):
        book = full_book()
        self.assertGreater(min(len(book.bodies()[p]) for p in range(3)), 2)
        self.check(book, (1, 1), (2, 0))

    def test_a_book_with_long_runs(self):
        book = long_book()
        runs = basis_runs(book, (0, 0))
        self.assertGreater(max(run_matrix(book, 0, bits)[2] for bits in runs), 2000)
        self.check(book, (0, 0), (1, 0))


class NumberTest(unittest.TestCase):
    def test_spaces_with_numbers_of_2000_digits(self):
        book = Book(2, [[("again", [call(1, [1, 0, 1, 1]), ("set", 0, [0, 1, 1, 1])]), ("either", [], [("end", 1)])],
                        [("keep", [0], [("set", 1, [2, 0, 1, 1])]), call(0, [0, 1, 0, 1], [], [("end", 1)])]])
        big = 10 ** 1999 + 7
        good = table(book)
        large = Space(16, [[big, 0, 0, 0, *[big + k * k for k in range(12)]]])
        self.assertEqual(table_fault(book, {**good, (0, 0): good[0, 0] + large})[0], "closed")
        self.assertGreater(len(body_space(book, {cls: large for cls in good}, (0, 1))), 1)
        vector = [big, big + 1, -big]
        thing = {0: Space(3, [[1, 0, 0], vector])}
        self.assertEqual(sure_fault(book, free(book), [[[big, big, big]]], thing)[0], "closed")
        self.assertEqual(settle(book, free(book), [[[big, -big, big]]])[0], "history")
        self.assertTrue(vanishing(vanishing(thing[0])) == thing[0])

    def test_numbers_of_60_digits(self):
        big = 10 ** 60 - 1
        book = Book(3, [[("again", [("set", 0, [9, 9, 9, 9, 9])])]])
        told = played(book, 0, [1] * 199 + [0], board=(big, -big, big), n=-big)
        self.assertEqual((told[0], told[3]), (0, 199))
        self.assertEqual(done(book, [(0, [1, 0], big)] * 210, board=(big, big, -big)),
                         done(book, [(0, [1] * 210 + [0], big)], board=(big, big, -big)))


class NestedTest(unittest.TestCase):
    def things(self):
        """Return things nested thirty deep, of each kind."""
        found = [[], (), {}]
        for _ in range(29):
            found = [[found[0]], (found[1],), {0: found[2]}]
        mixed = 1
        for depth in range(30):
            mixed = [[mixed], (mixed, None), {"x": mixed}][depth % 3]
        return [*found, mixed]

    def test_each_argument_that_may_be_any_thing(self):
        book = full_book()
        sender = free(book)
        equation, claims = ([(0, 0)], [0], [], [0]), [[]]
        for thing in self.things():
            self.assertEqual(table_fault(book, thing), ("form",))
            self.assertIn(equation_fault(book, equation, thing), (("form",), ("deed", 0)))
            self.assertEqual(equation_fault(book, equation, [thing]), ("deed", 0))
            self.assertEqual(holds_fault(book, [], thing), ("form",))
            self.assertEqual(sure_fault(book, sender, claims, thing), ("form",))
            self.assertEqual(history_fault(book, sender, claims, thing), ("form",))
            for action in (
                lambda thing: played(book, thing, []), lambda thing: played(book, 0, thing), lambda thing: played(book, 0, [thing]),
                lambda thing: deed_class(book, thing), lambda thing: done(book, thing), lambda thing: done(book, [], board=thing),
                lambda thing: Space(thing, []), lambda thing: Space(2, thing), lambda thing: Space(2, [thing]),
                lambda thing: body_space(book, thing, (0, 0)), lambda thing: basis_runs(book, thing),
                lambda thing: board_space(book, thing), lambda thing: decide(book, thing),
                lambda thing: decide(book, (thing, [], [], [])), lambda thing: holds_fault(book, thing, None),
                lambda thing: Sender(book, thing), lambda thing: sender.ways(thing), lambda thing: sender.behind(0, thing),
                lambda thing: settle(book, sender, thing), lambda thing: decide_there(book, sender, thing, equation),
                lambda thing: decide_there(book, sender, 0, thing),
            ):
                with self.assertRaises(BoardError):
                    action(thing)
            self.assertFalse(thing in Space(2, []))


class DepthTest(unittest.TestCase):
    def test_deep_calls_need_no_deep_recursion(self):
        book = Book(1, [[("either", [], [("keep", [], [("set", 0, [1, 1, 0]), call(0, [1, 0, 1])])])]])
        bits = [1] * 4000 + [0]
        limit = sys.getrecursionlimit()
        sys.setrecursionlimit(400)
        try:
            self.assertEqual(played(book, 0, bits), (0, (4000,), 0, 4000))
            self.assertEqual(run_matrix(book, 0, bits)[1], [1, 0, 0, 4000, 1, 0, 0, 0, 1])
            self.assertEqual(done(book, [(0, bits, 1)] * 3), (12000,))
            table(full_book())
            basis_runs(long_book(), (0, 0))
        finally:
            sys.setrecursionlimit(limit)


if __name__ == "__main__":
    unittest.main()
