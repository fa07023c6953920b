"""Points 27 to 29: equations, and what decide answers."""

import copy
import itertools
import unittest

import reference
from equationtools import break_somewhere, random_equation, short_deeds
from samples import lists_in, spoil
from sharedboard.books import Book
from sharedboard.deeds import deed_class
from sharedboard.equations import decide, equation_fault, holds_fault
from sharedboard.errors import NoEquation
from sharedboard.runs import run_matrix
from sharedboard.spaces import Space
from sharedboard.tables import table

ADD_N = ("set", 0, [0, 1, 1])
DOUBLE = ("set", 0, [0, 2, 0])


def small_book():
    """Return a book of one cell: procedure 0 adds n, procedure 1 sets the cell to n or doubles it in way 1."""
    return Book(1, [[ADD_N], [("either", [("set", 0, [0, 0, 1])], [DOUBLE, ("end", 1)])]])


A, B, C, NONE = (0, 0), (1, 0), (1, 1), (0, 1)
HOLD = [
    ([A], [0], [0], [0]),
    ([A, A], [0, 1], [1, 0], [0]),
    ([A, B], [0, 1], [1], [0]),
    ([B, A], [1, 0], [0], [0]),
    ([B, B], [0, 1], [1], [0]),
    ([C, C], [0, 1], [1, 0], [0]),
    ([C, C], [1, 0], [0, 1], [0]),
    ([NONE], [0], [], [0]),
    ([A, NONE], [0, 1], [1], [0]),
    ([NONE, A], [], [0, 1], [0]),
    ([C, B], [0, 1], [1], [0]),
]
BREAK = [
    ([A], [0], [], [0]),
    ([A], [], [0], [0]),
    ([B], [0], [], [0]),
    ([C], [0], [], [0]),
    ([A, A], [0, 1], [], [0]),
    ([A, A], [0], [1], [0]),
    ([A, A], [0, 1], [0], [0]),
    ([B, B], [0, 1], [1, 0], [0]),
    ([A, B], [0, 1], [0], [0]),
    ([B, A], [0, 1], [1], [0]),
    ([A, C], [0, 1], [1, 0], [0]),
    ([C, C], [0, 1], [1], [0]),
    ([B, B], [0], [1], [0]),
]


class DecideTest(unittest.TestCase):
    def test_equations_that_hold(self):
        book = small_book()
        for equation in HOLD:
            with self.subTest(equation=equation):
                word, found = decide(book, equation)
                self.assertEqual(word, "holds")
                self.assertEqual({cls: space.basis() for cls, space in found.items()},
                                 {cls: space.basis() for cls, space in table(book).items()})
                self.assertIsNone(holds_fault(book, [equation], found))

    def test_equations_that_do_not_hold(self):
        book = small_book()
        for equation in BREAK:
            with self.subTest(equation=equation):
                word, deeds = decide(book, equation)
                self.assertEqual(word, "deeds")
                self.assertEqual([deed_class(book, deed) for deed in deeds], equation[0])
                self.assertTrue(break_somewhere(1, book.bodies(), equation, deeds))
                self.assertIsNone(equation_fault(book, equation, deeds))
                self.assertEqual(holds_fault(book, [equation], table(book)), ("equation", 0))

    def test_only_the_named_cells_are_asked(self):
        book = Book(3, [[("set", 0, [0, 1, 0, 0, 1]), ("set", 2, [1, 0, 0, 2, 0])], [("set", 0, [0, 2, 0, 0, 0])]])
        one, other = (0, 0), (1, 0)
        for cells, word in (([0], "deeds"), ([1], "holds"), ([2], "holds"), ([1, 2], "holds"), ([0, 1, 2], "deeds")):
            self.assertEqual(decide(book, ([one, other], [0, 1], [1, 0], cells))[0], word)
        for cells, word in (([0], "deeds"), ([1], "holds"), ([2], "deeds"), ([0, 1], "deeds"), ([1, 2], "deeds")):
            self.assertEqual(decide(book, ([other, one], [0, 1], [0], cells))[0], word)

    def test_the_same_class_twice_stands_for_two_deeds(self):
        book = small_book()
        word, deeds = decide(book, ([A, A], [0], [1], [0]))
        self.assertEqual(word, "deeds")
        self.assertNotEqual(deeds[0][2], deeds[1][2])
        self.assertEqual(decide(book, ([B, B], [0, 1], [1, 0], [0]))[0], "deeds")

    def test_the_sum_of_the_lengths_is_the_least(self):
        # One round moves the cell, three rounds in a row are needed for nothing else.
        book = Book(1, [[("either", [("set", 0, [0, 1, 0])], [("set", 0, [0, 1, 0])] * 2 + [("set", 0, [5, 1, 0])])],
                        [("either", [DOUBLE, DOUBLE], [("set", 0, [0, 3, 0])] * 2)]])
        word, deeds = decide(book, ([(0, 0), (1, 0)], [0, 1], [1, 0], [0]))
        self.assertEqual(word, "deeds")
        lengths = [run_matrix(book, procedure, bits)[2] for procedure, bits, _ in deeds]
        self.assertEqual(lengths, [3, 2])
        self.assertEqual(deeds[0][:2], (0, [1]))

    def test_random_equations_against_all_short_runs(self):
        counts = {"holds": 0, "deeds": 0}
        for seed in range(330):
            cells, procedures = 1 + seed % 3, 1 + seed % 2
            bodies = reference.random_bodies(seed, cells, procedures)
            book = Book(cells, bodies)
            running = [cls for cls, space in table(book).items() if len(space)]
            equation = random_equation(seed, running * 4 + [(0, 1)], cells)
            word, found = decide(book, equation)
            counts[word] += 1
            best = None
            lists = [short_deeds(cells, bodies, cls, 4, 12)[:18] for cls in equation[0]]
            for chosen in itertools.product(*lists):
                if break_somewhere(cells, bodies, equation, [deed for _, deed in chosen]):
                    total = sum(length for length, _ in chosen)
                    best = total if best is None else min(best, total)
            if word == "holds":
                self.assertIsNone(best)
                self.assertIsNone(holds_fault(book, [equation], found))
                continue
            self.assertIsNone(equation_fault(book, equation, found))
            self.assertTrue(break_somewhere(cells, bodies, equation, found))
            total = sum(run_matrix(book, procedure, bits)[2] for procedure, bits, _ in found)
            if best is not None:
                self.assertLessEqual(total, best)
        self.assertGreater(min(counts.values()), 50)

    def test_what_is_returned_is_new(self):
        book = small_book()
        equation = ([B, B], [0, 1], [1, 0], [0])
        kept = copy.deepcopy(equation)
        first = decide(book, equation)
        lists = lists_in(first)
        self.assertEqual(len({id(one) for one in lists}), len(lists))
        again = copy.deepcopy(first)
        spoil(first[1])
        self.assertEqual(decide(book, equation), again)
        self.assertEqual(equation, kept)
        held = decide(book, HOLD[0])[1]
        held.clear()
        self.assertEqual(len(decide(book, HOLD[0])[1]), 4)


class NoEquationTest(unittest.TestCase):
    def check(self, equation, place):
        book = Book(2, [[], [("end", 1)]])
        actions = (
            lambda: decide(book, equation),
            lambda: equation_fault(book, equation, None),
        )
        for action in actions:
            with self.subTest(equation=equation), self.assertRaises(NoEquation) as caught:
                action()
            self.assertEqual(caught.exception.place, place)

    def test_no_tuple_of_four_items(self):
        for equation in (None, 0, "", "abcd", [], [[A], [0], [], [0]], (), ([A], [0], []), ([A], [0], [], [0], [0]), {}):
            self.check(equation, "equation")

    def test_variables(self):
        for variables in (None, (), (A,), [], [A, A, A], A, [None], [A, None], [[0, 0]], [(0,)], [(2, 0)], [(0, 2)],
                          [(-1, 0)], [(True, 0)], [A, (0, False)], ["00"], {A: 0}, "", 0, [A, 0]):
            self.check((variables, [0], [], [0]), "variables")
            self.check((variables, None, None, None), "variables")

    def test_left_and_right(self):
        for side in (None, (), (0,), 0, "0", {}, {0: 0}, [2], [-1], [True], [False], [None], ["0"], [[0]], [0, 0], [1, 0, 1], [0, 1, 2]):
            self.check(([A, A], side, [0, 1], [0]), "left")
            self.check(([A, A], side, None, None), "left")
            self.check(([A, A], [0, 1], side, [0]), "right")
            self.check(([A, A], [0, 1], side, None), "right")
        self.check(([A], [1], [0], [0]), "left")
        self.check(([A], [0], [1], [0]), "right")

    def test_an_index_in_neither_list(self):
        for left, right in (([], []), ([0], []), ([0], [0]), ([], [1]), ([1], [1])):
            self.check(([A, A], left, right, [0]), "right")
            self.check(([A, A], left, right, None), "right")
        self.check(([A], [], [], [0]), "right")

    def test_cells(self):
        for cells in (None, (), (0,), 0, "0", {}, {0: 0}, [], [2], [-1], [1, 0], [0, 0], [0, 1, 1], [True], [False], [0, True],
                      [None], ["0"], [[0]], [0, 1, 2]):
            self.check(([A], [0], [], cells), "cells")

    def test_the_book_is_asked(self):
        equation = ([(1, 1)], [0], [], [1])
        self.assertEqual(decide(Book(2, [[], [("end", 1)]]), equation)[0], "holds")
        with self.assertRaises(NoEquation) as caught:
            decide(Book(2, [[]]), equation)
        self.assertEqual(caught.exception.place, "variables")
        with self.assertRaises(NoEquation) as caught:
            decide(Book(1, [[], [("end", 1)]]), equation)
        self.assertEqual(caught.exception.place, "cells")

    def test_each_form_that_is_named(self):
        book = Book(3, [[("set", 0, [1, 1, 0, 0, 0])]])
        sides = [[0, 1], [1, 0], [0], [1], []]
        for left in sides:
            for right in sides:
                if set(left) | set(right) == {0, 1}:
                    for cells in ([0], [1], [2], [0, 1], [0, 2], [1, 2], [0, 1, 2]):
                        holds = len(left) == len(right) or 0 not in cells
                        word = decide(book, ([A, A], left, right, cells))[0]
                        self.assertEqual(word, "holds" if holds else "deeds")


class SpaceTest(unittest.TestCase):
    def test_a_matrix_whose_first_number_is_0(self):
        # The board space of procedure 0 has a basis matrix with first number 0, for n may be anything.
        book = Book(1, [[ADD_N]])
        found = decide(book, ([A, A], [0, 1], [1, 0], [0]))
        self.assertEqual(found[0], "holds")
        self.assertIsNone(holds_fault(book, [([A, A], [0, 1], [1, 0], [0])], found[1]))
        self.assertEqual(decide(book, ([A, A], [0, 1], [0], [0]))[0], "deeds")
        self.assertTrue(Space(9, [[1, 0, 0, 0, 1, 1, 0, 0, 1]]) == found[1][0, 0])


if __name__ == "__main__":
    unittest.main()
