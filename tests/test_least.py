"""The search behind points 22 and 25: its guesses are asked exactly, whatever it counts with."""

import random
import unittest

import reference
from sharedboard.books import Book
from sharedboard.echelon import basis_of
from sharedboard.flow import Flow
from sharedboard.kinds import class_list
from sharedboard.least import FIRST_MODULUS, LeastRuns, least_runs
from sharedboard.modular import basis_modulo, inverse, lifted
from sharedboard.search import Search


def told_by(book, least):
    """Return the bases and the lengths of the least runs of all classes."""
    return [
        (least.basis(cls), [length for _, _, length in least.of_class(cls)]) for cls in class_list(len(book))
    ]


class CertainTest(unittest.TestCase):
    def test_a_first_search_is_right(self):
        for seed in range(40):
            cells = 1 + seed % 3
            flow = Flow(Book(cells, reference.random_bodies(seed, cells, 2)))
            self.assertTrue(LeastRuns(flow, Search(flow, FIRST_MODULUS)).are_certain())

    def test_searches_with_small_moduli_are_caught_or_right(self):
        caught = 0
        for seed in range(60):
            cells = 1 + seed % 2
            book = Book(cells, reference.random_bodies(seed, cells, 2))
            expected = told_by(book, least_runs(book))
            flow = Flow(book)
            for modulus in (2, 3, 4, 5, 6, 9):
                found = LeastRuns(flow, Search(flow, modulus))
                if found.are_certain():
                    self.assertEqual(told_by(book, found), expected)
                else:
                    caught += 1
        self.assertGreater(caught, 20)

    def test_a_number_that_the_modulus_divides(self):
        # The cell is multiplied by 9 and by 3: modulo 3 both rows are zero.
        book = Book(1, [[("either", [("set", 0, [0, 9, 0])], [("set", 0, [0, 3, 0])])]])
        flow = Flow(book)
        self.assertFalse(LeastRuns(flow, Search(flow, 3)).are_certain())
        self.assertEqual(told_by(book, least_runs(book, modulus=3)), told_by(book, least_runs(book)))

    def test_a_run_that_only_seems_needless(self):
        # Modulo 3 the runs of one command are one, and the longer run [1, 0] is taken in the place of it.
        book = Book(1, [[("either", [("set", 0, [1, 0, 0])], [("either", [("set", 0, [4, 0, 0])], [
            ("set", 0, [0, 0, 0]), ("set", 0, [2, 0, 0])])])]])
        flow = Flow(book)
        wrong = LeastRuns(flow, Search(flow, 3))
        self.assertEqual([length for _, _, length in wrong.of_class((0, 0))], [1, 2])
        self.assertFalse(wrong.are_certain())
        for modulus in (3, FIRST_MODULUS):
            right = least_runs(book, modulus=modulus)
            self.assertEqual([length for _, _, length in right.of_class((0, 0))], [1, 1])

    def test_a_greater_modulus_is_tried_until_one_is_right(self):
        for seed in range(40):
            cells = 1 + seed % 3
            book = Book(cells, reference.random_bodies(seed, cells, 2))
            self.assertEqual(told_by(book, least_runs(book, modulus=3)), told_by(book, least_runs(book)))


class ModularTest(unittest.TestCase):
    def test_inverses(self):
        for modulus in (7, 101, 2 ** 61 - 1):
            for number in (1, 2, 3, 5, modulus - 1):
                self.assertEqual(inverse(modulus, number) * number % modulus, 1)

    def test_lifted_numbers(self):
        modulus = 2 ** 61 - 1
        for vector in ([1, 0, 5], [7, -3, 2], [12, 10 ** 8, -10 ** 8 + 1]):
            factor = inverse(modulus, vector[0])
            found = lifted(modulus, [factor * number % modulus for number in vector])
            self.assertEqual([number * vector[0] for number in found], [number * found[0] for number in vector])

    def test_bases(self):
        self.assertEqual(basis_modulo(7, [[3, 0, 1], [6, 0, 2], [3, 1, 1]]), [(0, [1, 0, 5]), (1, [0, 1, 0])])
        self.assertEqual(basis_modulo(7, [[7, 14]]), [])


class LargeTest(unittest.TestCase):
    def test_large_numbers_with_and_without_a_small_basis(self):
        source = random.Random(2)
        for width, many in ((3, 2), (6, 4), (10, 3)):
            ugly = [[source.randint(-10 ** 200, 10 ** 200) for _ in range(width)] for _ in range(many)]
            self.assertEqual([row for _, row in basis_of(ugly)], reference.canonical(ugly))
            small = [[source.randint(-3, 3) for _ in range(width)] for _ in range(many)]
            mixed = [[10 ** 300 * a + b for a, b in zip(one, other)] for one, other in zip(small, small[1:] + small[:1])]
            self.assertEqual([row for _, row in basis_of(mixed)], reference.canonical(mixed))


if __name__ == "__main__":
    unittest.main()
