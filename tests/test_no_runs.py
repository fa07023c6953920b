"""Points 17 and 18: lists that are no runs, and the errors of played and run_matrix in their order."""

import unittest

from sharedboard.books import Book
from sharedboard.errors import NoBoard, NoNumber, NoProcedure, NoRun
from sharedboard.runs import played, run_matrix

ADD_ONE = ("set", 0, [1, 1, 0])


def call(procedure, first=(), second=()):
    return ("call", procedure, [0, 0, 0], [list(first), list(second)])


def either(first=(), second=()):
    return ("either", list(first), list(second))


class NoRunTest(unittest.TestCase):
    def check(self, bodies, bits, index, procedure=0):
        book = Book(1, bodies)
        for action in (played, run_matrix):
            with self.subTest(bodies=bodies, bits=bits, action=action.__name__):
                with self.assertRaises(NoRun) as caught:
                    action(book, procedure, bits)
                self.assertEqual(caught.exception.index, index)
                self.assertIsInstance(caught.exception.index, int)

    def test_what_is_no_list(self):
        for bits in ((), (0,), None, 0, 1, -1, True, "", "01", {}, {0: 0}, {0: 1}):
            self.check([[]], bits, -1)
            self.check([[either()]], bits, -1)
            self.check([[call(0)]], bits, -1)

    def test_the_first_item_that_is_no_bit(self):
        for wrong in (2, -1, 10 ** 50, True, False, None, "0", "", [0], (1,), {}, []):
            self.check([[either()]], [wrong], 0)
            self.check([[either(), either()]], [1, wrong], 1)
            self.check([[either(), either()]], [wrong, wrong], 0)
            self.check([[either(), either()]], [0, 1, wrong, 2], 2)

    def test_an_item_that_is_no_bit_comes_ahead_of_all_that_the_execution_does(self):
        # It would not be taken; ahead of it stand bits that are not taken either.
        self.check([[]], [0, 1, 2], 2)
        # The execution goes on for ever.
        self.check([[call(0)]], [0, 1, True], 2)
        # The execution needs more bits than there are.
        self.check([[either()] * 8], [0, 1, "1"], 2)

    def test_a_procedure_that_calls_itself_without_a_bit(self):
        self.check([[call(0)]], [], -2)
        self.check([[call(0)]], [0, 1, 0], -2)
        self.check([[ADD_ONE, ("keep", [0], [("keep", [], [call(0)])])]], [], -2)

    def test_two_that_call_one_another_without_a_bit(self):
        bodies = [[ADD_ONE, call(1)], [call(0), ADD_ONE]]
        self.check(bodies, [], -2)
        self.check(bodies, [1], -2, procedure=1)
        self.check([[call(1)], [call(2)], [call(1)]], [], -2)
        self.check([[call(1)], [call(2)], [call(0)]], [0], -2, procedure=2)

    def test_without_a_bit_behind_bits_that_were_taken_earlier(self):
        bodies = [[("again", [ADD_ONE]), call(1)], [call(1)]]
        for rounds in (0, 1, 5):
            self.check(bodies, [1] * rounds + [0], -2)
            self.check(bodies, [1] * rounds + [0, 1, 1], -2)
        # The first call takes a bit ahead of the second, the second none ahead of the third.
        self.check([[either([call(0)], [call(1)])], [call(1)]], [0, 0, 1], -2)
        self.check([[either([], [call(1)]), ("end", 0)], [call(2), call(1)], [either()]], [1, 0, 1], 3)

    def test_a_bit_that_was_taken_within_an_earlier_call_counts(self):
        # Procedure 1 takes a bit and is done; the call of 0 behind it is no call without a bit.
        bodies = [[call(1, [call(0)], [])], [either([], [("end", 1)])]]
        self.check(bodies, [0, 0, 0], 3)
        self.assertEqual(played(Book(1, bodies), 0, [0, 0, 1]), (0, (0,), 0, 0))

    def test_the_execution_needs_another_bit(self):
        self.check([[either()]], [], 0)
        self.check([[either(), either()]], [1], 1)
        self.check([[("again", [ADD_ONE])]], [], 0)
        self.check([[("again", [ADD_ONE])]], [1, 1, 1], 3)
        self.check([[("again", [ADD_ONE])]], [1] * 200, 200)
        self.check([[call(1), either()], [either()]], [0], 1)
        # It needs a bit that is not there ahead of a call that would go on for ever.
        self.check([[either(), either(), call(1)], [call(1)]], [0], 1)

    def test_the_first_bit_that_is_not_taken(self):
        self.check([[]], [0], 0)
        self.check([[ADD_ONE]], [1, 1, 1], 0)
        self.check([[either()]], [1, 0], 1)
        self.check([[("again", [ADD_ONE])]], [1, 1, 0, 1, 0], 3)
        self.check([[either([("end", 1)], []), either()]], [0, 1], 1)
        self.check([[either([("end", 1)], [])]], [0] * 200, 1)

    def test_runs_of_the_same_books(self):
        self.assertEqual(played(Book(1, [[either()]]), 0, [1])[0], 0)
        self.assertEqual(played(Book(1, [[either([("end", 1)], []), either()]]), 0, [0])[0], 1)
        self.assertEqual(played(Book(1, [[either([], [call(0)])]]), 0, [1, 1, 0])[0], 0)


class OrderTest(unittest.TestCase):
    def setUp(self):
        self.book = Book(2, [[("either", [], [])], []])

    def test_no_procedure(self):
        for procedure in (2, 3, -1, -2, 10 ** 40, True, False, None, "0", [0], (0,), {}):
            with self.assertRaises(NoProcedure):
                played(self.book, procedure, [0])
            with self.assertRaises(NoProcedure):
                run_matrix(self.book, procedure, [0])

    def test_no_procedure_is_ahead_of_no_run(self):
        with self.assertRaises(NoProcedure):
            played(self.book, True, None, board=3, n="x")
        with self.assertRaises(NoProcedure):
            run_matrix(self.book, 2, [2])

    def test_no_board(self):
        for board in ([0, 0], (0,), (0, 0, 0), (), (0, True), (False, 0), (0, None), (0, "1"), 0, "00", {}, False, (0, (0,))):
            with self.subTest(board=board), self.assertRaises(NoBoard):
                played(self.book, 0, [0], board=board)

    def test_no_number(self):
        for n in (True, False, None, "0", "", [0], (0,), {}):
            with self.subTest(n=n), self.assertRaises(NoNumber):
                played(self.book, 0, [0], n=n)

    def test_no_run_is_ahead_of_no_board_and_this_ahead_of_no_number(self):
        with self.assertRaises(NoRun):
            played(self.book, 0, [], board=(1,), n=None)
        with self.assertRaises(NoBoard):
            played(self.book, 0, [0], board=(1,), n=None)
        with self.assertRaises(NoNumber):
            played(self.book, 0, [0], board=(1, 2), n=None)
        self.assertEqual(played(self.book, 0, [0], board=(1, 2), n=3), (0, (1, 2), 3, 0))


if __name__ == "__main__":
    unittest.main()
