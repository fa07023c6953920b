"""Points 3 and 11 to 13: what a Book takes, keeps and returns."""

import copy
import unittest

from samples import RICH_CALLS, RICH_PATHS, lists_in, ones, rich_bodies, spoil, wrapped, zeros
from sharedboard.books import Book


def commands(cells):
    return [("set", cells - 1, ones(cells)), ("carry", zeros(cells)), ("end", 0), ("end", 1)]


def with_blocks(cells, procedures):
    """Return statements with empty blocks, of every kind."""
    every_cell = list(range(cells))
    return [
        ("keep", [], []), ("keep", every_cell, []), ("either", [], []), ("again", []),
        *[("call", p, ones(cells), [[], []]) for p in range(procedures)],
    ]


PLACES = {
    0: [(0,), (2,)],
    1: [(0, 0, 0), (1, 1, 2)],
    2: [(0, 0, 0, 1, 0), (1, 1, 1, 0, 1)],
    3: [(0, 0, 0, 0, 0, 0, 0), (0, 1, 1, 0, 1, 1, 2)],
}


class OrdinaryTest(unittest.TestCase):
    def check(self, cells, bodies):
        book = Book(cells, bodies)
        self.assertEqual(book.cells(), cells)
        self.assertEqual(len(book), len(bodies))
        self.assertEqual(book.bodies(), bodies)
        return book

    def test_numbers_of_cells_and_procedures(self):
        for cells in (1, 2, 3):
            for procedures in (1, 2, 3):
                with self.subTest(cells=cells, procedures=procedures):
                    self.check(cells, [[] for _ in range(procedures)])
                    self.check(cells, [[("set", 0, ones(cells))] for _ in range(procedures)])

    def test_a_rich_book(self):
        book = self.check(2, rich_bodies())
        self.assertEqual(len(book), 3)
        self.assertEqual(book.calls(), RICH_CALLS)

    def test_every_statement_at_every_level(self):
        for cells in (1, 2, 3):
            for level, paths in PLACES.items():
                blocked = with_blocks(cells, 3) if level < 3 else []
                for statement in commands(cells) + blocked:
                    for path in paths:
                        with self.subTest(statement=statement, path=path):
                            bodies = [[], wrapped(statement, path), []]
                            book = self.check(cells, bodies)
                            self.assertEqual(book[1, path], statement)

    def test_every_cell_of_set_and_keep(self):
        for cells in (1, 2, 3):
            for cell in range(cells):
                self.check(cells, [[("set", cell, zeros(cells)), ("keep", [cell], [])]])
        for kept in ([], [0], [1], [2], [0, 1], [0, 2], [1, 2], [0, 1, 2]):
            self.check(3, [[("keep", kept, [])]])

    def test_every_number_of_a_row(self):
        for number in range(-9, 10):
            for at in range(4):
                row = zeros(2)
                row[at] = number
                self.check(2, [[("set", 1, row), ("carry", row), ("call", 0, row, [[], []])]])

    def test_statements_behind_an_end(self):
        self.check(1, [[("end", 1), ("set", 0, [1, 1, 1]), ("end", 0), ("again", [("end", 1), ("end", 1)])]])

    def test_calls_of_a_later_procedure_and_of_itself(self):
        for target in (0, 1, 2):
            for caller in (0, 1, 2):
                bodies = [[], [], []]
                bodies[caller] = [("call", target, [0, 1, 0], [[], [("end", 1)]])]
                self.assertEqual(self.check(1, bodies).calls(), [(caller, (0,))])

    def test_lists_of_exactly_eight_statements(self):
        eight = [("end", 0)] * 8
        self.check(1, [eight, eight, eight])
        self.check(1, [[("again", eight)]])
        self.check(1, [[("either", [], [("keep", [0], [("again", eight)])])]])

    def test_procedures_of_exactly_twelve_statements(self):
        end = ("end", 0)
        self.check(1, [[end] * 7 + [("again", [end] * 4)]])
        self.check(1, [[("again", [end] * 8), end, end, end]])
        self.check(1, [[("either", [end] * 5, [end] * 6)]])
        self.check(1, [[("call", 0, [0, 0, 0], [[("again", [("again", [end] * 8)])], [end]])]])
        self.check(1, [[end] * 4 + [("again", [end] * 7)] for _ in range(3)])


class CopyTest(unittest.TestCase):
    def test_changed_arguments_have_no_effect(self):
        passed = rich_bodies()
        book = Book(2, passed)
        spoil(passed)
        self.assertEqual(book.bodies(), rich_bodies())
        self.assertEqual(book, Book(2, rich_bodies()))
        self.assertEqual(book.calls(), RICH_CALLS)

    def test_each_single_list_that_is_changed_has_no_effect(self):
        for at in range(len(lists_in(rich_bodies()))):
            passed = rich_bodies()
            book = Book(2, passed)
            lists_in(passed)[at].append(7)
            self.assertEqual(book.bodies(), rich_bodies())
            lists_in(passed)[at].clear()
            self.assertEqual(book.bodies(), rich_bodies())
            returned = book.bodies()
            lists_in(returned)[at].insert(0, 7)
            self.assertEqual(book.bodies(), rich_bodies())

    def test_arguments_stay(self):
        passed = rich_bodies()
        book = Book(2, passed)
        book.bodies(), book.calls(), len(book), book[0, (0,)]
        self.assertEqual(passed, rich_bodies())

    def test_changed_bodies_have_no_effect(self):
        book = Book(2, rich_bodies())
        spoil(book.bodies())
        self.assertEqual(book.bodies(), rich_bodies())

    def test_changed_statements_have_no_effect(self):
        book = Book(2, rich_bodies())
        for procedure, path in RICH_PATHS:
            with self.subTest(procedure=procedure, path=path):
                before = copy.deepcopy(book[procedure, path])
                spoil(book[procedure, path])
                self.assertEqual(book[procedure, path], before)
        self.assertEqual(book.bodies(), rich_bodies())

    def test_changed_calls_have_no_effect(self):
        book = Book(2, rich_bodies())
        answer = book.calls()
        self.assertIsNot(answer, book.calls())
        spoil(answer)
        self.assertEqual(book.calls(), RICH_CALLS)

    def check_apart(self, values):
        found = [id(one) for value in values for one in lists_in(value)]
        self.assertEqual(len(found), len(set(found)))

    def test_no_list_comes_twice(self):
        book = Book(2, rich_bodies())
        answers = [book.bodies(), book.bodies()]
        for _ in range(2):
            answers.extend([book[procedure, path] for procedure, path in RICH_PATHS])
            answers.append(book.calls())
        self.check_apart(answers)

    def test_one_list_at_several_places(self):
        row, pair = [1, 1, 0], [[], []]
        block = [("set", 0, row), ("carry", row), ("call", 0, row, pair)]
        body = [("either", block, block), ("call", 1, row, [pair[0], pair[0]])]
        passed = [body, body, block]
        expected = copy.deepcopy(passed)
        book = Book(1, passed)
        self.check_apart([book.bodies(), book.bodies(), book[0, (0,)], book[0, (0,)], book[1, (0, 1, 2)]])
        changed = book.bodies()
        changed[0][0][1][0][2][0] = 5
        changed[2].clear()
        self.assertEqual(changed[1], expected[1])
        self.assertEqual(changed[0][0][2], expected[0][0][2])
        self.assertEqual(book.bodies(), expected)
        row.append(4)
        block.clear()
        pair[0].append(("end", 0))
        self.assertEqual(book.bodies(), expected)


class EqualTest(unittest.TestCase):
    def test_equal_books(self):
        self.assertTrue(Book(2, rich_bodies()) == Book(2, rich_bodies()))
        self.assertFalse(Book(2, rich_bodies()) != Book(2, rich_bodies()))
        book = Book(1, [[]])
        self.assertTrue(book == book)
        self.assertTrue(book == Book(1, book.bodies()))

    def test_one_number_of_a_row_changed(self):
        for at in range(3):
            row = [1, 2, 3]
            row[at] = 0
            for path in ((0,), (0, 1, 0), (0, 0, 0, 0, 0, 1, 0)):
                one = Book(1, [[], wrapped(("carry", [1, 2, 3]), path)])
                other = Book(1, [[], wrapped(("carry", row), path)])
                self.assertFalse(one == other)
                self.assertTrue(one != other)

    def test_another_number_of_cells(self):
        self.assertFalse(Book(1, [[]]) == Book(2, [[]]))
        self.assertFalse(Book(3, [[("end", 1)]]) == Book(2, [[("end", 1)]]))

    def test_procedures_in_another_order(self):
        self.assertFalse(Book(1, [[], [("end", 1)]]) == Book(1, [[("end", 1)], []]))
        self.assertFalse(Book(1, [[], []]) == Book(1, [[]]))

    def test_other_bodies(self):
        one = Book(1, [[("either", [], [("end", 1)])]])
        self.assertFalse(one == Book(1, [[("either", [("end", 1)], [])]]))
        self.assertFalse(one == Book(1, [[("either", [], [("end", 0)])]]))
        self.assertFalse(one == Book(1, [[("either", [], [])]]))
        self.assertFalse(Book(2, [[("keep", [0], [])]]) == Book(2, [[("keep", [1], [])]]))

    def test_equality_changes_nothing(self):
        one, other = Book(2, rich_bodies()), Book(2, rich_bodies())
        one == other
        self.assertEqual(one.bodies(), rich_bodies())
        self.assertEqual(other.bodies(), rich_bodies())


class CallsTest(unittest.TestCase):
    def test_none(self):
        self.assertEqual(Book(1, [[]]).calls(), [])
        self.assertEqual(Book(1, [[("either", [("again", [])], [])], [("end", 1)]]).calls(), [])

    def test_reading_order(self):
        def call(first, second):
            return ("call", 1, [0, 0, 0], [first, second])
        body = [
            call([call([call([], [])], [])], [("again", [call([], [])])]),
            ("either", [("end", 0), call([], [])], [call([], [("end", 1)])]),
            ("keep", [0], [call([], [])]),
        ]
        expected = [
            (0,), (0, 0, 0), (0, 0, 0, 0, 0), (0, 1, 0, 0, 0),
            (1, 0, 1), (1, 1, 0), (2, 0, 0),
        ]
        self.assertEqual(
            Book(1, [body, [], body]).calls(),
            [(0, path) for path in expected] + [(2, path) for path in expected],
        )

    def test_calls_lead_to_call_statements(self):
        book = Book(2, rich_bodies())
        for procedure, path in book.calls():
            self.assertEqual(book[procedure, path][0], "call")


if __name__ == "__main__":
    unittest.main()
