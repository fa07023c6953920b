"""Points 28 and 29: equation_fault and holds_fault; point 30: strikes."""

import copy
import unittest

import reference
from equationtools import corners, differ
from samples import lists_in, spoil
from sharedboard.bases import board_space
from sharedboard.books import Book
from sharedboard.equations import decide, equation_fault, holds_fault, strikes
from sharedboard.errors import NoEquation, NoEquations
from sharedboard.spaces import Space
from sharedboard.tables import table

ADD_N = ("set", 0, [0, 1, 1])
DOUBLE = ("set", 0, [0, 2, 0])
A, B, C, NONE = (0, 0), (1, 0), (1, 1), (0, 1)


def small_book():
    """Return a book of one cell: procedure 0 adds n, procedure 1 sets the cell to n or doubles it in way 1."""
    return Book(1, [[ADD_N], [("either", [("set", 0, [0, 0, 1])], [DOUBLE, ("end", 1)])]])


def whole(size):
    return Space(size, [[int(i == j) for j in range(size)] for i in range(size)])


class EquationFaultTest(unittest.TestCase):
    def test_the_form(self):
        equation = ([A, B], [0, 1], [0], [0])
        deed = (0, [], 1)
        for thing in (None, (), (deed, (1, [0], 1)), 0, "", "ab", {}, {0: deed, 1: deed}, [], [deed], [deed] * 3, True):
            self.assertEqual(equation_fault(small_book(), equation, thing), ("form",))
        self.assertEqual(equation_fault(small_book(), ([A], [0], [], [0]), [deed, deed]), ("form",))

    def test_deeds_and_classes_variable_by_variable(self):
        equation = ([A, C], [0, 1], [1, 0], [0])
        good, other = (0, [], 1), (1, [1], 0)
        wrong_deeds = [None, 0, [], (), (0, [], True), (0, [0], 1), (2, [], 1), [0, [], 1], (0, (), 1)]
        for wrong in wrong_deeds:
            self.assertEqual(equation_fault(small_book(), equation, [wrong, other]), ("deed", 0))
            self.assertEqual(equation_fault(small_book(), equation, [good, wrong]), ("deed", 1))
            self.assertEqual(equation_fault(small_book(), equation, [wrong, wrong]), ("deed", 0))
            self.assertEqual(equation_fault(small_book(), equation, [other, wrong]), ("class", 0))
        self.assertEqual(equation_fault(small_book(), equation, [other, other]), ("class", 0))
        self.assertEqual(equation_fault(small_book(), equation, [good, good]), ("class", 1))
        self.assertEqual(equation_fault(small_book(), equation, [good, (1, [0], 0)]), ("class", 1))
        self.assertEqual(equation_fault(small_book(), equation, [other, good]), ("class", 0))

    def test_deeds_that_break_it_or_not(self):
        book = small_book()
        self.assertIsNone(equation_fault(book, ([A, C], [0, 1], [1, 0], [0]), [(0, [], 1), (1, [1], 0)]))
        self.assertEqual(equation_fault(book, ([A, C], [0, 1], [1, 0], [0]), [(0, [], 0), (1, [1], 0)]), ("kept",))
        self.assertEqual(equation_fault(book, ([A], [0], [], [0]), [(0, [], 0)]), ("kept",))
        self.assertIsNone(equation_fault(book, ([A], [0], [], [0]), [(0, [], 10 ** 59)]))
        self.assertEqual(equation_fault(book, ([A, A], [0, 1], [], [0]), [(0, [], 5), (0, [], -5)]), ("kept",))
        self.assertIsNone(equation_fault(book, ([A, A], [0, 1], [], [0]), [(0, [], 5), (0, [], 5)]))
        self.assertEqual(equation_fault(book, ([B, B], [0], [1], [0]), [(1, [0], 7), (1, [0], 7)]), ("kept",))
        self.assertIsNone(equation_fault(book, ([B], [0], [], [0]), [(1, [0], 7)]))

    def test_only_the_named_cells(self):
        book = Book(2, [[("set", 0, [0, 1, 0, 1])]])
        self.assertEqual(equation_fault(book, ([A], [0], [], [1]), [(0, [], 3)]), ("kept",))
        self.assertIsNone(equation_fault(book, ([A], [0], [], [0, 1]), [(0, [], 3)]))

    def test_against_boards(self):
        seen = set()
        for seed in range(80):
            cells = 1 + seed % 3
            bodies = reference.random_bodies(seed, cells, 2)
            book = Book(cells, bodies)
            deeds = [(p, bits, n) for p in (0, 1) for bits, _, _ in reference.all_runs(cells, bodies, p, 3, 9)[:3] for n in (0, 2)]
            for one in deeds[:4]:
                for other in deeds[-4:]:
                    classes = [(deed[0], reference.executed(cells, bodies, *deed[:2])[0]) for deed in (one, other)]
                    for left, right in (([0, 1], [1, 0]), ([0, 1], [1]), ([1], [0]), ([], [1, 0])):
                        equation = (classes, left, right, list(range(cells)))
                        breaks = any(differ(cells, bodies, equation, [one, other], board) for board in corners(cells))
                        found = equation_fault(book, equation, [one, other])
                        self.assertEqual(found, None if breaks else ("kept",))
                        seen.add(found)
        self.assertEqual(len(seen), 2)

    def test_no_equation_comes_first(self):
        with self.assertRaises(NoEquation) as caught:
            equation_fault(small_book(), ([A], [0], [], [1]), None)
        self.assertEqual(caught.exception.place, "cells")

    def test_the_arguments_stay(self):
        equation, thing = ([A, C], [0, 1], [1, 0], [0]), [(0, [], 1), (1, [1], 0)]
        kept = copy.deepcopy((equation, thing))
        equation_fault(small_book(), equation, thing)
        self.assertEqual((equation, thing), kept)


class HoldsFaultTest(unittest.TestCase):
    def test_no_equations(self):
        good, book = ([A], [0], [], [0]), small_book()
        for equations in (None, (), (good,), 0, "", {}, {0: good}, good, True):
            for thing in (None, table(book)):
                with self.assertRaises(NoEquations) as caught:
                    holds_fault(book, equations, thing)
                self.assertEqual(caught.exception.index, -1)
        for wrong in (None, 0, [], (), list(good), ([A], [0], [], [1]), ([A], [0], [], [True]), ([], [], [], [0])):
            with self.assertRaises(NoEquations) as caught:
                holds_fault(book, [good, good, wrong, None], None)
            self.assertEqual(caught.exception.index, 2)

    def test_the_faults_of_the_table_come_first(self):
        book = small_book()
        good = table(book)
        broken = ([A], [0], [], [0])
        for thing in (None, {}, [], {**good, (2, 0): good[A]}, {**good, A: Space(4, [])}):
            self.assertEqual(holds_fault(book, [broken], thing), ("form",))
            self.assertEqual(holds_fault(book, [], thing), ("form",))
        self.assertEqual(holds_fault(book, [broken], {**good, B: Space(9, [])}), ("closed", 1, 0))
        self.assertEqual(holds_fault(book, [], {**good, C: Space(9, [])}), ("closed", 1, 1))

    def test_the_first_equation_that_does_not_hold(self):
        book = small_book()
        hold, broken = ([A, A], [0, 1], [1, 0], [0]), ([A, C], [0, 1], [1, 0], [0])
        good = table(book)
        self.assertIsNone(holds_fault(book, [], good))
        self.assertIsNone(holds_fault(book, [hold] * 5, good))
        self.assertEqual(holds_fault(book, [broken, hold], good), ("equation", 0))
        self.assertEqual(holds_fault(book, [hold, hold, broken, broken], good), ("equation", 2))

    def test_greater_closed_tables(self):
        book = small_book()
        hold = ([A, B], [0, 1], [1], [0])
        self.assertIsNone(holds_fault(book, [hold], table(book)))
        # All matrices at all: nothing holds but what needs no matrix.
        greater = {cls: whole(9) for cls in table(book)}
        self.assertIsNone(holds_fault(book, [], greater))
        self.assertEqual(holds_fault(book, [hold], greater), ("equation", 0))
        self.assertIsNone(holds_fault(book, [([A, A], [0, 1], [0, 1], [0]), ([A], [0], [0], [0])], greater))
        # The equation holds on the class that became greater, too: nothing runs in way 1.
        more = {**table(book), NONE: Space(9, [reference.identity(3)])}
        self.assertIsNone(holds_fault(book, [hold, ([NONE], [0], [], [0])], more))
        more = {**table(book), NONE: whole(9)}
        self.assertEqual(holds_fault(book, [hold, ([NONE], [0], [], [0])], more), ("equation", 1))

    def test_the_column_of_n_goes_along_with_its_number_in_row_0(self):
        # The only cell stays as it is; the greater table has a matrix in which row 0 takes from n.
        book = Book(1, [[]])
        equation = ([A, A], [0, 1], [1], [0])
        given = {A: Space(9, [reference.identity(3)]), NONE: Space(9, [])}
        self.assertIsNone(holds_fault(book, [equation], given))
        # Column of n: 1 in row 0, 0 in row 1. Of column 0 the first number then is 1, and the cell is lost.
        strange = [0, 0, 1, 0, 0, 0, 0, 0, 0]
        given = {A: Space(9, [reference.identity(3), strange]), NONE: Space(9, [])}
        self.assertEqual(holds_fault(book, [equation], given), ("equation", 0))
        # A matrix whose column of n is in the row of n only: leaving that row and column out, nothing is left.
        given = {A: Space(9, [reference.identity(3), [0, 0, 0, 0, 0, 0, 0, 0, 1]]), NONE: Space(9, [])}
        self.assertIsNone(holds_fault(book, [equation], given))

    def test_a_basis_matrix_whose_first_number_is_0(self):
        # [0, 1] and [1]: an n that is added in variable 0 is lost, and without the factor it would not be.
        book = small_book()
        self.assertIn([0, 0, 1, 0], board_space(book, A).basis())
        self.assertIsNone(holds_fault(book, [([A, B], [0, 1], [1], [0])], table(book)))
        self.assertEqual(decide(book, ([A, B], [0, 1], [1], [0]))[0], "holds")

    def test_the_arguments_stay(self):
        book = small_book()
        good, equations = table(book), [([A, A], [0, 1], [1, 0], [0])]
        kept = ({cls: space.basis() for cls, space in good.items()}, copy.deepcopy(equations))
        holds_fault(book, equations, good)
        self.assertEqual(({cls: space.basis() for cls, space in good.items()}, equations), kept)


class StrikesTest(unittest.TestCase):
    SIDES = {"first": ([0, 1], [0]), "last": ([0, 1], [1]), "swap": ([0, 1], [1, 0]), "undo": ([0, 1], [])}

    def test_written_out(self):
        found = strikes(small_book())
        self.assertEqual(found[A,], [])
        self.assertEqual(found[B,], [])
        self.assertEqual(found[C,], [])
        self.assertEqual(found[NONE,], ["home"])
        self.assertEqual(found[A, A], ["swap"])
        self.assertEqual(found[A, B], ["last"])
        self.assertEqual(found[B, A], [])
        self.assertEqual(found[B, B], ["last"])
        self.assertEqual(found[C, B], ["last"])
        self.assertEqual(found[C, C], ["swap"])
        self.assertEqual(found[A, NONE], ["first", "last", "swap", "undo"])
        self.assertEqual(found[NONE, A], ["first", "last", "swap", "undo"])
        self.assertEqual(found[NONE, NONE], ["first", "last", "swap", "undo"])

    def test_first_undo_and_home(self):
        book = Book(2, [[("set", 0, [0, -1, 0, 0])], [("set", 1, [5, 0, 0, 0])], [("keep", [0], [("set", 0, [1, 0, 0, 0])])]])
        flip, put, home = (0, 0), (1, 0), (2, 0)
        found = strikes(book)
        self.assertEqual(found[home,], ["home"])
        self.assertEqual(found[flip, flip], ["swap", "undo"])
        self.assertEqual(found[put, put], ["first", "last", "swap"])
        self.assertEqual(found[flip, put], ["swap"])
        self.assertEqual(found[home, home], ["first", "last", "swap", "undo"])
        self.assertEqual(found[put, home], ["first", "swap"])
        self.assertEqual(found[home, put], ["last", "swap"])

    def test_keys(self):
        for procedures in (1, 2, 3):
            found = strikes(Book(1, [[] for _ in range(procedures)]))
            classes = [(p, way) for p in range(procedures) for way in (0, 1)]
            expected = {(a,) for a in classes} | {(a, b) for a in classes for b in classes}
            self.assertEqual(set(found), expected)

    def test_against_decide(self):
        words = {}
        for seed in range(45):
            cells, procedures = 1 + seed % 3, 1 + seed % 2
            book = Book(cells, reference.random_bodies(seed, cells, procedures))
            every = list(range(cells))
            for key, value in strikes(book).items():
                if len(key) == 1:
                    self.assertEqual(value, ["home"] if decide(book, ([key[0]], [0], [], every))[0] == "holds" else [])
                    continue
                expected = [word for word, (left, right) in sorted(self.SIDES.items())
                            if decide(book, (list(key), left, right, every))[0] == "holds"]
                self.assertEqual(value, expected)
                for word in value:
                    words[word] = words.get(word, 0) + 1
        self.assertGreater(min(words.values()), 10)

    def test_the_dict_and_its_lists_are_new(self):
        first = strikes(small_book())
        kept = copy.deepcopy(first)
        lists = [one for value in first.values() for one in lists_in(value)]
        self.assertEqual(len({id(one) for one in lists}), len(first))
        for value in first.values():
            spoil(value)
        first.clear()
        self.assertEqual(strikes(small_book()), kept)


if __name__ == "__main__":
    unittest.main()
