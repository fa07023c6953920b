"""Point 13: what Book refuses, and where it says the fault is."""

import copy
import unittest

from samples import lists_in, ones, rich_bodies, wrapped, zeros
from sharedboard.books import Book
from sharedboard.errors import BoardError, NoBook, NoCells

WRONG_CELLS = (0, -1, 4, 10 ** 40, True, False, None, "", "1", [], [1], (1,), {})
NO_LISTS = (None, True, False, 0, 1, "", "again", (), (("end", 0),), {}, {0: []})
END = ("end", 0)

# One place for each level and each kind of block around it.
PATHS = [
    (0,), (3,), (0, 0, 0), (0, 1, 0), (2, 1, 3), (0, 0, 0, 0, 0), (1, 1, 1, 0, 1),
    (0, 0, 0, 0, 0, 0, 0), (0, 1, 0, 1, 0, 1, 2), (1, 0, 1, 1, 0, 0, 1),
]


def wrong_rows(cells):
    """Return values that are no rows of a book with that many cells."""
    right = zeros(cells)
    found = [[], right[:-1], right + [0], tuple(right), None, "0" * (cells + 2), 0, True, {}, [right]]
    for at in range(cells + 2):
        for wrong in (10, -10, 10 ** 40, True, False, None, "1", [0], (0,)):
            row = list(right)
            row[at] = wrong
            found.append(row)
    return found


def wrong_indexes(many):
    """Return values that are no index below many."""
    return [many, many + 1, -1, 10 ** 40, True, False, None, "0", [], [0], (0,), {}]


def wrong_kept(cells):
    """Return values that are no list of cells of a keep."""
    found = [[cell] for cell in wrong_indexes(cells)] + list(NO_LISTS) + [(0,), (0, 1)]
    found += [[0, 0], [0, cells], [-1, 0], [False], [0, True], [0, None]]
    if cells > 1:
        found += [[1, 0], [1, 1], [0, 1, 1], [0, 1, 0], [0, 0, 1]]
    if cells > 2:
        found += [[0, 2, 1], [2, 1], [1, 0, 2], [0, 1, 2, 2]]
    return found


def wrong_pairs():
    """Return values that are no list of two lists."""
    found = [[], [[]], [[], [], []], ([], []), "ab", None, 0, True, {}]
    for wrong in NO_LISTS:
        found += [[wrong, []], [[], wrong]]
    return found


def wrong_statements(cells, procedures):
    """Return values that are no statement of such a book, at whatever level."""
    row = ones(cells)
    found = [None, True, 0, "", "end", "set", [], ["end", 0], ["carry", row], {}, {"end": 0}]
    found += [(), ("",), ("jump", 0), ("End", 0), ("end ", 0), ("or", [], [])]
    found += [(word, 0) for word in (None, True, 0, [], ["end"], ("end",), {})]
    found += [("set", cell, row) for cell in wrong_indexes(cells)]
    found += [("set", 0, wrong) for wrong in wrong_rows(cells)]
    found += [("carry", wrong) for wrong in wrong_rows(cells)]
    found += [("end", wrong) for wrong in wrong_indexes(2)]
    found += [("keep", wrong, []) for wrong in wrong_kept(cells)]
    found += [("keep", [0], wrong) for wrong in NO_LISTS]
    found += [("either", wrong, []) for wrong in NO_LISTS]
    found += [("either", [], wrong) for wrong in NO_LISTS]
    found += [("again", wrong) for wrong in NO_LISTS]
    found += [("call", wrong, row, [[], []]) for wrong in wrong_indexes(procedures)]
    found += [("call", 0, wrong, [[], []]) for wrong in wrong_rows(cells)]
    found += [("call", 0, row, wrong) for wrong in wrong_pairs()]
    for right in right_statements(cells):
        found += [right[:many] for many in range(1, len(right))]
        found += [(*right, extra) for extra in (None, 0, [], row)]
    return found


def right_statements(cells):
    """Return one statement of each kind."""
    row = ones(cells)
    return [
        ("set", 0, row), ("carry", row), ("keep", [0], []), ("either", [], []),
        ("again", []), ("call", 0, row, [[], []]), ("end", 1),
    ]


def told(cells, bodies):
    """Return the fields of the NoBook that a Book raises, or None."""
    try:
        Book(cells, bodies)
    except NoBook as error:
        return (error.procedure, error.path)
    return None


class CellsTest(unittest.TestCase):
    def test_no_cells(self):
        for cells in WRONG_CELLS:
            with self.subTest(cells=cells), self.assertRaises(NoCells):
                Book(cells, [[]])

    def test_no_cells_goes_ahead_of_no_book(self):
        for cells in WRONG_CELLS:
            for bodies in (None, [], [None], [[None]], [[], [], [], []]):
                with self.subTest(cells=cells, bodies=bodies), self.assertRaises(NoCells):
                    Book(cells, bodies)


class BodiesTest(unittest.TestCase):
    def test_bodies_that_are_no_list_of_one_to_three(self):
        for bodies in (*NO_LISTS, ([],), [], [[], [], [], []], [None] * 4, [[None]] * 5):
            with self.subTest(bodies=bodies):
                self.assertEqual(told(1, bodies), (-1, ()))

    def test_a_body_that_is_no_list(self):
        for wrong in NO_LISTS:
            for procedure in range(3):
                with self.subTest(wrong=wrong, procedure=procedure):
                    bodies = [[], [END], []]
                    bodies[procedure] = wrong
                    self.assertEqual(told(2, bodies), (procedure, ()))
                    self.assertEqual(told(2, bodies[:procedure + 1]), (procedure, ()))

    def test_the_first_procedure_with_a_fault(self):
        self.assertEqual(told(1, [None, None]), (0, ()))
        self.assertEqual(told(1, [[None], None]), (0, (0,)))
        self.assertEqual(told(1, [[], None, [None]]), (1, ()))
        self.assertEqual(told(1, [[END], [END, None], None]), (1, (1,)))
        self.assertEqual(told(1, [[("call", 1, [0] * 3, [[], []])], None]), (1, ()))
        self.assertEqual(told(1, [[("call", 2, [0] * 3, [[], []])], None]), (0, (0,)))


class StatementTest(unittest.TestCase):
    def test_each_wrong_statement_at_each_place(self):
        for cells in (1, 2, 3):
            for wrong in wrong_statements(cells, 2):
                for path in PATHS:
                    with self.subTest(cells=cells, wrong=wrong, path=path):
                        body = wrapped(wrong, path)
                        self.assertEqual(told(cells, [body, []]), (0, path))
                        self.assertEqual(told(cells, [[], body]), (1, path))

    def test_each_wrong_statement_in_each_kind_of_block(self):
        for wrong in wrong_statements(2, 1):
            rows = [
                ((0, 0, 1), ("keep", [1], [END, wrong])),
                ((0, 0, 0), ("again", [wrong, END])),
                ((0, 0, 0), ("either", [wrong], [END])),
                ((0, 1, 1), ("either", [END], [END, wrong])),
                ((0, 0, 2), ("call", 0, [0] * 4, [[END, END, wrong], []])),
                ((0, 1, 0), ("call", 0, [0] * 4, [[], [wrong]])),
            ]
            for path, statement in rows:
                with self.subTest(wrong=wrong, statement=statement):
                    self.assertEqual(told(2, [[statement]]), (0, path))

    def test_blocks_at_level_three(self):
        for cells in (1, 2, 3):
            for statement in right_statements(cells):
                for path in PATHS:
                    with self.subTest(statement=statement, path=path):
                        blocked = statement[0] in ("keep", "either", "again", "call")
                        expected = (0, path) if blocked and len(path) == 7 else None
                        self.assertEqual(told(cells, [wrapped(statement, path)]), expected)

    def test_a_fault_around_goes_ahead_of_the_faults_inside(self):
        for statement in (
            ("either", [None], None), ("keep", [5], [None]), ("call", 0, [0], [[None], []]),
            ("call", 7, [0] * 3, [[None], [None]]), ("call", 0, [0] * 3, [[None], None]),
            ("again", [None], []), ("keep", [0, 0], [None]),
        ):
            with self.subTest(statement=statement):
                self.assertEqual(told(1, [[statement]]), (0, (0,)))
        self.assertEqual(told(1, [wrapped(("again", [None]), (0, 0, 0, 0, 0, 0, 0))]), (0, (0,) * 7))

    def test_the_first_fault_in_reading_order(self):
        self.assertEqual(told(1, [[END, None, None]]), (0, (1,)))
        self.assertEqual(told(1, [[("either", [END], [None]), None]]), (0, (0, 1, 0)))
        self.assertEqual(told(1, [[("either", [END, ("again", [None])], [None]), None]]), (0, (0, 0, 1, 0, 0)))
        self.assertEqual(told(1, [[("call", 0, [0] * 3, [[], [None]]), ("end", 2)]]), (0, (0, 1, 0)))
        self.assertEqual(told(1, [[("end", True), ("again", [None])]]), (0, (0,)))

    def test_a_fault_behind_an_end(self):
        self.assertEqual(told(1, [[("end", 1), ("end", 2)]]), (0, (1,)))
        self.assertEqual(told(1, [[("end", 1), ("again", [("end", 0), None])]]), (0, (1, 0, 1)))


class SizeTest(unittest.TestCase):
    def test_the_ninth_of_a_list(self):
        nine = [END] * 9
        self.assertEqual(told(1, [nine]), (0, (8,)))
        self.assertEqual(told(1, [[], nine]), (1, (8,)))
        self.assertEqual(told(1, [[END] * 1000]), (0, (8,)))
        self.assertEqual(told(1, [[("again", nine)]]), (0, (0, 0, 8)))
        self.assertEqual(told(1, [[("either", [END], nine)]]), (0, (0, 1, 8)))
        self.assertEqual(told(1, [[("call", 0, [0] * 3, [[], nine])]]), (0, (0, 1, 8)))
        self.assertEqual(told(1, [[("keep", [], [("again", [("again", nine)])])]]), (0, (0, 0, 0, 0, 0, 0, 8)))

    def test_the_ninth_may_be_anything(self):
        for ninth in (None, (), ("again", [None]), ("end", 2)):
            self.assertEqual(told(1, [[END] * 8 + [ninth]]), (0, (8,)))

    def test_a_fault_ahead_of_the_ninth(self):
        self.assertEqual(told(1, [[END] * 7 + [("again", [None]), END]]), (0, (7, 0, 0)))
        self.assertEqual(told(1, [[END] * 7 + [None, END]]), (0, (7,)))

    def test_the_thirteenth_of_a_procedure(self):
        self.assertEqual(told(1, [[("again", [END] * 7), END, END, END, END, END]]), (0, (5,)))
        self.assertEqual(told(1, [[("again", [END] * 5), ("again", [END] * 6)]]), (0, (1, 0, 5)))
        self.assertEqual(told(1, [[("either", [END] * 6, [END] * 6)]]), (0, (0, 1, 5)))
        self.assertEqual(told(1, [[], [END] * 4 + [("again", [END] * 8)]]), (1, (4, 0, 7)))
        deep = [("again", [("again", [("again", [END] * 8), END])]), END]
        self.assertEqual(told(1, [deep]), (0, (1,)))
        deeper = [("call", 0, [0] * 3, [[END] * 4, [("again", [END] * 7)]])]
        self.assertEqual(told(1, [deeper]), (0, (0, 1, 0, 0, 6)))

    def test_the_thirteenth_may_be_anything(self):
        for last in (None, (), ("again", [None]), ("end", 2)):
            self.assertEqual(told(1, [[("again", [END] * 8), END, END, END, last]]), (0, (4,)))

    def test_a_fault_ahead_of_the_thirteenth(self):
        self.assertEqual(told(1, [[("again", [END] * 8), END, END, None, END]]), (0, (3,)))

    def test_the_thirteenth_ahead_of_a_ninth(self):
        self.assertEqual(told(1, [[END] * 7 + [("again", [END] * 9)]]), (0, (7, 0, 4)))

    def test_statements_are_counted_for_each_procedure(self):
        twelve = [END] * 3 + [("again", [END] * 8)]
        self.assertIsNone(told(1, [twelve, twelve, twelve]))
        self.assertEqual(told(1, [twelve, twelve, twelve + [END]]), (2, (4,)))

    def test_a_list_that_would_unfold_to_very_many_statements(self):
        block = []
        for _ in range(14):
            block = [("either", block, block)] * 8
        self.assertEqual(told(1, [block]), (0, (0, 0, 0, 0, 0, 0, 0)))
        self.assertEqual(told(1, [[END] * 100000]), (0, (8,)))


def fault_by_the_words(cells, bodies):
    """Return what point 13 asks for, read as a list of all faults."""
    if not isinstance(bodies, list) or len(bodies) not in (1, 2, 3):
        return (-1, ())
    for procedure, body in enumerate(bodies):
        if not isinstance(body, list):
            return (procedure, ())
        seen = []
        fault = read_list(body, (), cells, len(bodies), seen)
        if fault is not None:
            return (procedure, fault)
    return None


def read_list(block, around, cells, procedures, seen):
    for index, statement in enumerate(block):
        path = around + (index,)
        seen.append(path)
        if index == 8 or len(seen) == 13:
            return path
        blocks = read_statement(statement, cells, procedures)
        if blocks is None or blocks and len(around) == 6:
            return path
        for number, inner in enumerate(blocks):
            fault = read_list(inner, path + (number,), cells, procedures, seen)
            if fault is not None:
                return fault
    return None


def read_statement(statement, cells, procedures):
    """Return the blocks of a statement, None if it is none."""
    def number(value, low, high):
        return type(value) is int and low <= value <= high

    def row(value):
        return type(value) is list and len(value) == cells + 2 and all(number(item, -9, 9) for item in value)

    def kept(value):
        return type(value) is list and all(number(cell, 0, cells - 1) for cell in value) \
            and value == sorted(set(value))

    def block(value):
        return type(value) is list

    match statement:
        case tuple(("set", cell, value)) if number(cell, 0, cells - 1) and row(value):
            return []
        case tuple(("carry", value)) if row(value):
            return []
        case tuple(("keep", value, one)) if kept(value) and block(one):
            return [one]
        case tuple(("either", one, other)) if block(one) and block(other):
            return [one, other]
        case tuple(("again", one)) if block(one):
            return [one]
        case tuple(("call", target, value, list([one, other]))) \
                if number(target, 0, procedures - 1) and row(value) and block(one) and block(other):
            return [one, other]
        case tuple(("end", way)) if number(way, 0, 1):
            return []
    return None


def changed_at_each_place(value, junk):
    """Return copies of a value with one part replaced by the junk, doubled or left out."""
    found = [junk]
    if isinstance(value, (list, tuple)):
        for at, item in enumerate(value):
            head, tail = value[:at], value[at + 1:]
            found.append(head + tail)
            found.append(value[:at + 1] + value[at:])
            for changed in changed_at_each_place(item, junk):
                found.append(head + type(value)([changed]) + tail)
    return found


JUNK = (
    None, True, False, -1, 0, 1, 2, 3, 4, 9, -9, 10, "set", "x", [], (), {}, [0], (0,), [[], []], [0, 0], [1, 0],
    [0, 0, 0], [0, 0, 0, 0], [True, 0, 0, 0], [0, 10, 0, 0], [None], [("end", 1)], [("again", [])],
    ("end", 0), ("end", 2), ("again", []), ("again", [None]), ("set", 2, [0, 0, 0, 0]), ("keep", [2], []),
    ("call", 3, [0, 0, 0, 0], [[], []]), ("call", 2, [0, 0, 0, 0], [[], []]), [("end", 0)] * 8, [("end", 0)] * 9,
)


class ChangedBookTest(unittest.TestCase):
    def test_each_part_of_a_book_changed(self):
        many = 0
        for junk in JUNK:
            for bodies in changed_at_each_place(rich_bodies(), junk):
                for cells in (1, 2, 3):
                    expected = fault_by_the_words(cells, bodies)
                    if told(cells, bodies) != expected:
                        self.fail(f"{cells} {bodies}: {told(cells, bodies)}, not {expected}")
                    many += expected is not None and cells == 2
        self.assertGreater(many, 5000)

    def test_wrong_arguments_stay(self):
        for junk in (None, ("end", 2), [("end", 0)] * 9):
            for bodies in changed_at_each_place(rich_bodies(), junk):
                kept = copy.deepcopy(bodies)
                one_by_one = lists_in(bodies)
                told(2, bodies)
                self.assertEqual(bodies, kept)
                self.assertEqual([id(x) for x in lists_in(bodies)], [id(x) for x in one_by_one])


class KindTest(unittest.TestCase):
    def test_the_errors_are_errors_of_the_program(self):
        with self.assertRaises(BoardError):
            Book(0, [[]])
        with self.assertRaises(BoardError):
            Book(1, None)

    def test_the_path_is_a_tuple_of_integers(self):
        with self.assertRaises(NoBook) as caught:
            Book(1, [[], [("again", [("end", 0), None])]])
        self.assertIs(type(caught.exception.path), tuple)
        self.assertEqual([type(step) for step in caught.exception.path], [int, int, int])


if __name__ == "__main__":
    unittest.main()
