"""Points 25 and 26: basis_runs and board_space."""

import random
import unittest

import reference
from sharedboard.bases import basis_runs, board_space
from sharedboard.books import Book
from sharedboard.deeds import deed_class, deed_matrix, done
from sharedboard.errors import NoClass
from sharedboard.matrices import applied
from sharedboard.runs import played, run_matrix
from sharedboard.spaces import Space
from sharedboard.tables import table

ADD_ONE = ("set", 0, [1, 1, 0])
DOUBLE = ("set", 0, [0, 2, 0])
NO_CLASSES = [None, 0, "", [0, 0], (), (0,), (0, 0, 0), (3, 0), (-1, 0), (0, 2), (0, -1), (True, 0), (False, 0),
              (0, True), (0, False), (None, 0), (0, None), ("0", 0), ((0, 0),), {}, {0: 0}, 10 ** 40]


def call(procedure, first=(), second=(), row=(0, 0, 0)):
    return ("call", procedure, list(row), [list(first), list(second)])


def lengths(book, cls):
    return [run_matrix(book, cls[0], bits)[2] for bits in basis_runs(book, cls)]


class BasisRunsTest(unittest.TestCase):
    def check(self, cells, bodies, most_bits=8, most_commands=40):
        """Check each class against all its short runs; return how often these say something."""
        book = Book(cells, bodies)
        spaces = table(book)
        told = 0
        for procedure in range(len(bodies)):
            every = reference.all_runs(cells, bodies, procedure, most_bits, most_commands)
            for way in (0, 1):
                found = [run_matrix(book, procedure, bits) for bits in basis_runs(book, (procedure, way))]
                self.assertEqual([one[0] for one in found], [way] * len(found))
                matrices = [one[1] for one in found]
                self.assertEqual(reference.rank(matrices), len(found))
                self.assertTrue(Space((cells + 2) * (cells + 2), matrices) == spaces[procedure, way])
                counts = [one[2] for one in found]
                self.assertEqual(counts, sorted(counts))
                mine = [(length, reference.matrix_of(cells, bodies, procedure, bits))
                        for bits, ended, length in every if ended == way]
                for most in sorted({length for length, _ in mine}):
                    # What runs up to this length span, the found ones up to this length span, too.
                    short = [matrix for length, matrix in mine if length <= most]
                    taken = [matrix for _, matrix, length in found if length <= most]
                    self.assertTrue(Space((cells + 2) * (cells + 2), short).within(
                        Space((cells + 2) * (cells + 2), taken)))
                    told += len(taken) > 1
        return told

    def test_random_books_against_all_short_runs(self):
        told = 0
        for seed in range(130):
            source = random.Random(seed)
            cells, procedures = source.randint(1, 3), source.randint(1, 3)
            told += self.check(cells, reference.random_bodies(seed, cells, procedures), 6, 30)
        self.assertGreater(told, 80)

    def test_books_with_many_calls(self):
        row = [0, 1, 1]
        self.check(1, [[("either", [ADD_ONE], [call(0), ("set", 0, row), call(0)])]])
        self.check(1, [[("either", [DOUBLE], [call(1), call(1)])],
                       [("either", [ADD_ONE, ("end", 1)], [call(0, [("end", 1)])])]])
        self.check(2, [[("again", [("call", 1, [1, 0, 1, 1], [[("set", 0, [0, 1, 1, 0])], [("carry", [1, 0, 0, 1])]])])],
                       [("either", [("set", 1, [0, 0, 1, 1])], [("end", 1)])]])

    def test_a_class_without_runs(self):
        book = Book(1, [[("again", []), call(0)], [ADD_ONE], [("end", 1)]])
        self.assertEqual(basis_runs(book, (0, 0)), [])
        self.assertEqual(basis_runs(book, (0, 1)), [])
        self.assertEqual(basis_runs(book, (1, 0)), [[]])
        self.assertEqual(basis_runs(book, (1, 1)), [])
        self.assertEqual(basis_runs(book, (2, 0)), [])
        self.assertEqual(basis_runs(book, (2, 1)), [[]])

    def test_runs_of_length_0(self):
        book = Book(1, [[("again", []), ("either", [], [("end", 1)])]])
        for way in (0, 1):
            runs = basis_runs(book, (0, way))
            self.assertEqual(len(runs), 1)
            self.assertEqual(played(book, 0, runs[0])[0::3], (way, 0))
        book = Book(1, [[("again", [("call", 0, [1, 0, 0], [[], []])]), ("again", [ADD_ONE])]])
        self.assertEqual(lengths(book, (0, 0)), [0, 1])

    def test_a_call_may_change_the_board_without_a_command(self):
        # A call sets n, a command inside takes it: the call itself counts as no command.
        book = Book(1, [[("again", [call(1, row=(1, 1, 0)), call(1, row=(0, 2, 0))])], [("set", 0, [0, 0, 1])]])
        self.assertEqual(lengths(book, (0, 0)), [0, 2])

    def test_the_shorter_of_two_ways_is_taken(self):
        book = Book(1, [[("either", [ADD_ONE, ("set", 0, [-1, 1, 0]), ADD_ONE, DOUBLE], [ADD_ONE, DOUBLE])]])
        self.assertEqual(basis_runs(book, (0, 0)), [[1]])
        book = Book(1, [[("either", [("set", 0, [5, 0, 0])] * 3, [call(1)])], [("either", [call(1)], [("set", 0, [5, 0, 0])])]])
        self.assertEqual(lengths(book, (0, 0)), [1])

    def test_no_class(self):
        book = Book(1, [[], [], []])
        for cls in NO_CLASSES:
            with self.subTest(cls=cls):
                with self.assertRaises(NoClass):
                    basis_runs(book, cls)
                with self.assertRaises(NoClass):
                    board_space(book, cls)

    def test_the_lists_are_new(self):
        book = Book(1, [[("again", [ADD_ONE])]])
        first = basis_runs(book, (0, 0))
        kept = [list(bits) for bits in first]
        first[1].append(9)
        first.clear()
        self.assertEqual(basis_runs(book, (0, 0)), kept)
        runs = basis_runs(Book(1, [[]]), (0, 0))
        self.assertEqual(runs, [[]])


class LongRunsTest(unittest.TestCase):
    def test_a_chain_of_calls(self):
        book = Book(1, [[call(1)] * 8, [call(2)] * 8, [DOUBLE] * 8])
        self.assertEqual(lengths(book, (0, 0)), [512])
        # Nothing, once and twice are three affine maps of a line, on which a doubling has a fixed point.
        book = Book(1, [[("again", [call(1)] * 8)], [call(2)] * 8, [DOUBLE] * 7 + [ADD_ONE]])
        self.assertEqual(lengths(book, (0, 0)), [0, 512])

    def test_thousands_of_bits_and_commands(self):
        # Each of the four choices takes a bit for nothing; the runs of (0, 0) have 176, 1056, 1936 .. commands,
        # for each call of itself has 176, or six times as many and more.
        commands = [("set", 0, [1, 2, -1, 1]), ("set", 1, [0, 1, 1, 2]), ("set", 0, [2, 0, 1, -1]), ("set", 1, [1, -1, 1, 0])]
        rows = [(1, 0, 1, 1), (0, 1, 0, 2), (2, 1, -1, 0), (0, 0, 1, 1)]
        first = [call(1, row=row) for row in rows]
        later = [call(0, row=row) for row in (rows + rows)[:6]]
        calls = [call(2, row=row) for row in (rows + rows)[:7]]
        book = Book(2, [
            [("either", first, later)],
            [*calls, ("keep", [], [call(2, row=row) for row in rows])],
            [("either", [command], [command]) for command in commands],
        ])
        runs = basis_runs(book, (0, 0))
        found = [run_matrix(book, 0, bits) for bits in runs]
        self.assertEqual([length for _, _, length in found], [176, 1056, *[1936] * 6, 2816])
        self.assertGreater(len(runs[-1]), 2816)
        self.assertTrue(Space(16, [matrix for _, matrix, _ in found]) == table(book)[0, 0])
        self.assertEqual(len(found), len(table(book)[0, 0]))
        for bits, (way, matrix, length) in zip(runs, found):
            told = played(book, 0, bits, board=(3, -4), n=10 ** 49)
            self.assertEqual((told[0], told[3]), (way, length))
            self.assertEqual([1, *told[1], told[2]], applied(4, matrix, [1, 3, -4, 10 ** 49]))
        deed = (0, runs[-1], 5)
        self.assertEqual(deed_class(book, deed), (0, 0))
        self.assertEqual([1, *done(book, [deed])], applied(3, deed_matrix(book, deed), [1, 0, 0]))
        self.assertTrue(deed_matrix(book, deed) in board_space(book, (0, 0)))


class BoardSpaceTest(unittest.TestCase):
    def test_written_out(self):
        book = Book(1, [[("either", [("set", 0, [3, 2, 5])], [("end", 1)])]])
        self.assertTrue(board_space(book, (0, 0)) == Space(4, [[1, 0, 3, 2], [0, 0, 5, 0]]))
        self.assertTrue(board_space(book, (0, 1)) == Space(4, [[1, 0, 0, 1]]))
        self.assertEqual(board_space(book, (0, 0)).width(), 4)

    def test_by_the_words_and_against_deeds(self):
        for seed in range(100):
            source = random.Random(seed)
            cells, procedures = source.randint(1, 3), source.randint(1, 3)
            book = Book(cells, reference.random_bodies(seed, cells, procedures))
            spaces = table(book)
            width, last = cells + 2, cells + 1
            for cls in spaces:
                space = board_space(book, cls)
                self.assertLessEqual(len(space), 1 + cells * (cells + 1))
                parts = []
                for matrix in spaces[cls].basis():
                    rows = [matrix[width * i:width * i + width] for i in range(last)]
                    parts.append([number for row in rows for number in row[:last]])
                    parts.append([number for row in rows for number in [row[last]] + [0] * cells])
                self.assertEqual(space.basis(), reference.canonical(parts))
                deeds = [(cls[0], bits, n) for bits in basis_runs(book, cls) for n in (0, 1, -7, 10 ** 20)]
                matrices = [deed_matrix(book, deed) for deed in deeds]
                self.assertTrue(Space(last * last, matrices) == space)

    def test_a_class_without_runs(self):
        book = Book(3, [[("end", 1)]])
        self.assertEqual(board_space(book, (0, 0)).basis(), [])
        self.assertEqual(board_space(book, (0, 0)).width(), 16)


if __name__ == "__main__":
    unittest.main()
