"""Points 12 and 13: book[procedure, path]."""

import unittest

from samples import RICH_PATHS, rich_bodies
from sharedboard.books import Book
from sharedboard.errors import NoPath, NoProcedure

NO_PROCEDURES = (-1, 3, 4, 10 ** 40, True, False, None, "", "0", [], [0], (), (0,), {}, {0: 0})
NO_PATHS = (
    (), (0, 0), (0, 0, 0, 0), (3,), (8,), (10 ** 40,), (-1,), (-3,),
    (0, 2, 0), (0, -1, 0), (1, 1, 0), (2, 2, 0), (0, 0, 1), (0, 1, 0), (2, 0, 1), (2, 1, 0), (0, 0, -1),
    (2, 0, 0, 0, 0), (0, 0, 0, 0, 0, 0, 0, 0, 0), (0, 0, 0, 0, 0, 1, 1), (0, 0, 0, 1, 0),
    (True,), (False,), (False, 0, 0), (0, False, 0), (0, 0, False), (True, 0, 0), (2, 0, False),
    (0, 0, 0, 0, 0, True, 0), (None,), ("0",), ((0,),), ([0],), ({},), (0, None, 0), (0, [], 0),
    [0], [0, 0, 0], [], 0, 1, -1, None, True, "", "0", {}, {0: 0},
)


class FoundTest(unittest.TestCase):
    def test_each_statement_by_its_path(self):
        bodies = rich_bodies()
        book = Book(2, bodies)
        expected = [
            bodies[0][0],
            bodies[0][1],
            bodies[0][1][3][0][0],
            ("end", 1),
            ("carry", [0, 1, 0, 0]),
            bodies[0][1][3][1][0],
            ("call", 1, [0, 1, 0, 0], [[], []]),
            ("end", 0),
            ("again", []),
            bodies[2][0],
            bodies[2][0][1][0],
            bodies[2][0][1][0][1][0],
            ("end", 0),
            ("set", 0, [0, 0, 0, 0]),
            ("keep", [], []),
            bodies[2][2],
            ("end", 1),
        ]
        self.assertEqual([book[at] for at in RICH_PATHS], expected)
        self.assertEqual(book[2, (2, 0, 0)], ("end", 1))

    def test_no_other_path_is_found(self):
        book = Book(2, rich_bodies())
        steps = range(-1, 4)
        paths = [(a,) for a in steps] + [(a, b) for a in steps for b in steps]
        paths += [(a, b, c) for a in steps for b in steps for c in steps]
        paths += [(a, b, c, d, e) for a in steps for b in steps for c in steps for d in steps for e in steps]
        for procedure in range(3):
            for path in paths:
                if (procedure, path) not in RICH_PATHS:
                    with self.assertRaises(NoPath):
                        book[procedure, path]

    def test_each_answer_is_new(self):
        book = Book(2, rich_bodies())
        self.assertIsNot(book[0, (0,)][2], book[0, (0,)][2])
        book[0, (0,)][2].clear()
        self.assertEqual(book[0, (0,)], ("set", 1, [1, -9, 9, 0]))


class WrongTest(unittest.TestCase):
    def test_no_procedure(self):
        book = Book(2, rich_bodies())
        for procedure in NO_PROCEDURES:
            with self.subTest(procedure=procedure), self.assertRaises(NoProcedure):
                book[procedure, (0,)]

    def test_no_procedure_in_a_short_book(self):
        for many in (1, 2, 3):
            book = Book(1, [[("end", 0)]] * many)
            self.assertEqual(book[many - 1, (0,)], ("end", 0))
            with self.assertRaises(NoProcedure):
                book[many, (0,)]

    def test_no_procedure_goes_ahead_of_no_path(self):
        book = Book(2, rich_bodies())
        for procedure in NO_PROCEDURES:
            for path in NO_PATHS:
                with self.assertRaises(NoProcedure):
                    book[procedure, path]

    def test_no_path(self):
        book = Book(2, rich_bodies())
        for path in NO_PATHS:
            with self.subTest(path=path), self.assertRaises(NoPath):
                book[2, path]

    def test_no_path_below_a_command_or_an_end(self):
        book = Book(1, [[("set", 0, [0, 0, 0]), ("carry", [0, 0, 0]), ("end", 1)]])
        for index in range(3):
            book[0, (index,)]
            for path in ((index, 0), (index, 0, 0), (index, 1, 0), (index, 2, 0)):
                with self.subTest(path=path), self.assertRaises(NoPath):
                    book[0, path]

    def test_no_path_beyond_the_blocks(self):
        end = [("end", 0)]
        statements = [("keep", [], end), ("again", end), ("either", end, end), ("call", 0, [0] * 3, [end, end])]
        book = Book(1, [statements])
        for index, blocks in enumerate((1, 1, 2, 2)):
            for number in range(4):
                if number < blocks:
                    self.assertEqual(book[0, (index, number, 0)], ("end", 0))
                else:
                    with self.subTest(index=index, number=number), self.assertRaises(NoPath):
                        book[0, (index, number, 0)]

    def test_no_path_in_an_empty_body(self):
        book = Book(2, rich_bodies())
        for path in ((), (0,), (0, 0), (-1,)):
            with self.assertRaises(NoPath):
                book[1, path]


if __name__ == "__main__":
    unittest.main()
