"""Points 10, 14, 15 and 18: run_matrix against played."""

import random
import unittest

import reference
from sharedboard.books import Book
from sharedboard.matrices import applied
from sharedboard.runs import played, run_matrix


def vectors(cells):
    """Return boards and integers with small and with large numbers."""
    big = 10 ** 49 + 3
    numbers = [(0, 0, 0, 0), (1, -2, 3, 4), (-7, 5, 0, -1), (big, -big, big + 1, 2), (3, big, -5, -big)]
    return [(row[:cells], row[3]) for row in numbers]


class WrittenOutTest(unittest.TestCase):
    def test_a_set(self):
        book = Book(2, [[("set", 1, [5, 6, 7, 8]), ("end", 1)]])
        self.assertEqual(run_matrix(book, 0, []), (1, [1, 0, 0, 0, 0, 1, 0, 0, 5, 6, 7, 8, 0, 0, 0, 1], 1))

    def test_a_carry(self):
        book = Book(1, [[("carry", [5, 6, 7])]])
        self.assertEqual(run_matrix(book, 0, []), (0, [1, 0, 0, 0, 1, 0, 5, 6, 7], 1))

    def test_nothing(self):
        for cells in (1, 2, 3):
            self.assertEqual(run_matrix(Book(cells, [[]]), 0, []), (0, reference.identity(cells + 2), 0))

    def test_one_command_behind_the_other(self):
        book = Book(1, [[("set", 0, [0, 1, 1]), ("carry", [0, 2, 0])]])
        self.assertEqual(run_matrix(book, 0, []), (0, [1, 0, 0, 0, 1, 1, 0, 2, 2], 2))

    def test_a_keep_puts_n_and_its_cells_back(self):
        block = [("set", 0, [1, 2, 3, 4]), ("set", 1, [5, 0, 6, 7]), ("carry", [8, 8, 8, 8])]
        book = Book(2, [[("keep", [0], block)]])
        self.assertEqual(run_matrix(book, 0, []), (0, [1, 0, 0, 0, 0, 1, 0, 0, 5, 0, 6, 7, 0, 0, 0, 1], 3))

    def test_a_call_gives_n_the_value_of_its_row_and_puts_it_back(self):
        book = Book(1, [[("call", 1, [2, 3, 4], [[], [("set", 0, [1, 1, 0])]])], [("set", 0, [0, 1, 1]), ("end", 1)]])
        self.assertEqual(run_matrix(book, 0, []), (0, [1, 0, 0, 3, 4, 4, 0, 0, 1], 2))

    def test_the_length_counts_the_commands_of_called_procedures(self):
        book = Book(1, [[("again", [("call", 1, [0, 0, 0], [[], []]), ("carry", [0, 0, 0])])], [("set", 0, [1, 1, 0])] * 3])
        for rounds in (0, 1, 9):
            way, matrix, length = run_matrix(book, 0, [1] * rounds + [0])
            self.assertEqual((way, length), (0, 4 * rounds))
            self.assertEqual(matrix[3:6], [3 * rounds, 1, 0])


class ComparedTest(unittest.TestCase):
    def test_random_books_on_several_boards(self):
        many = 0
        for seed in range(250):
            source = random.Random(seed)
            cells, procedures = source.randint(1, 3), source.randint(1, 3)
            bodies = reference.random_bodies(seed, cells, procedures, size=9)
            book = Book(cells, bodies)
            for _ in range(8):
                procedure = source.randrange(procedures)
                bits = reference.random_bits(source, cells, bodies, procedure)
                if isinstance(reference.executed(cells, bodies, procedure, bits), int):
                    continue
                many += 1
                way, matrix, length = run_matrix(book, procedure, bits)
                self.assertEqual(matrix, reference.matrix_of(cells, bodies, procedure, bits))
                self.assertEqual(matrix[:cells + 2], [1] + [0] * (cells + 1))
                for board, n in vectors(cells):
                    told = played(book, procedure, bits, board=board, n=n)
                    self.assertEqual((told[0], told[3]), (way, length))
                    self.assertEqual([1, *told[1], told[2]], applied(cells + 2, matrix, [1, *board, n]))
        self.assertGreater(many, 900)

    def test_long_runs(self):
        book = Book(1, [[("either", [], [("set", 0, [1, 2, 1]), ("call", 0, [1, 0, -1], [[], []])])]])
        way, matrix, length = run_matrix(book, 0, [1] * 199 + [0])
        self.assertEqual((way, length), (0, 199))
        for board, n in vectors(1):
            told = played(book, 0, [1] * 199 + [0], board=board, n=n)
            self.assertEqual([1, *told[1], told[2]], applied(3, matrix, [1, *board, n]))
        self.assertEqual(matrix[4], 2 ** 199)

    def test_the_returned_list_is_new(self):
        book = Book(1, [[("either", [], [("set", 0, [1, 2, 1])])]])
        for bits in ([0], [1]):
            first = run_matrix(book, 0, bits)[1]
            kept = list(first)
            first.append(9)
            first[0] = "changed"
            self.assertEqual(run_matrix(book, 0, bits)[1], kept)
            self.assertEqual(bits, [bits[0]])


if __name__ == "__main__":
    unittest.main()
