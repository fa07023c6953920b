"""Points 22 to 24: table, body_space and table_fault."""

import random
import unittest

import reference
from sharedboard.books import Book
from sharedboard.errors import NoClass, NoTable
from sharedboard.spaces import Space
from sharedboard.runs import run_matrix
from sharedboard.tables import body_space, table, table_fault

ADD_ONE = ("set", 0, [1, 1, 0])


def call(procedure, first=(), second=(), row=(0, 0, 1)):
    return ("call", procedure, list(row), [list(first), list(second)])


def spaces_of(width, lists):
    return {cls: Space(width * width, matrices) for cls, matrices in lists.items()}


def bases_of(spaces):
    return {cls: space.basis() for cls, space in spaces.items()}


def whole(size):
    return Space(size, [[int(i == j) for j in range(size)] for i in range(size)])


def random_table(source, cells, procedures, zeros):
    """Return lists of matrices, some with first number 0 and with any row 0 at all."""
    size = (cells + 2) * (cells + 2)
    found = {}
    for procedure in range(procedures):
        for way in (0, 1):
            many = source.choice([0, 1, 2])
            found[procedure, way] = [[source.randint(-2, 2) for _ in range(size)] for _ in range(many)]
            for matrix in found[procedure, way]:
                if zeros and source.random() < 0.5:
                    matrix[0] = 0
    return found


class TableTest(unittest.TestCase):
    def test_written_out(self):
        book = Book(1, [[("again", [ADD_ONE])], [("either", [("end", 1)], [call(1)])]])
        still, more = reference.identity(3), [1, 0, 0, 1, 1, 0, 0, 0, 1]
        found = table(book)
        self.assertEqual(sorted(found), [(0, 0), (0, 1), (1, 0), (1, 1)])
        self.assertTrue(found[0, 0] == Space(9, [still, more]))
        self.assertEqual(found[0, 1].basis(), [])
        self.assertTrue(found[1, 0] == Space(9, [still]))
        self.assertTrue(found[1, 1] == Space(9, [still]))

    def test_classes_without_runs_have_the_zero_space(self):
        for body in ([call(0)], [("again", []), call(0)], [("either", [call(0)], [ADD_ONE, call(0)]), ("end", 1)]):
            found = table(Book(1, [body]))
            self.assertEqual([len(found[0, 0]), len(found[0, 1])], [0, 0])
            self.assertEqual(found[0, 0].width(), 9)
        found = table(Book(1, [[call(1, [ADD_ONE], [("end", 1)])], [("end", 1)]]))
        self.assertEqual([len(found[cls]) for cls in sorted(found)], [0, 1, 0, 1])

    def test_keeps_ends_in_keeps_and_in_blocks_of_calls(self):
        end = ("keep", [0], [ADD_ONE, ("carry", [5, 0, 0]), ("either", [("end", 0)], [("end", 1)])])
        found = table(Book(1, [[ADD_ONE, end, ADD_ONE]]))
        step = [1, 0, 0, 1, 1, 0, 0, 0, 1]
        self.assertEqual(found[0, 0].basis(), [step])
        self.assertEqual(found[0, 1].basis(), [step])
        found = table(Book(1, [[call(1, [("end", 1)], [ADD_ONE]), ADD_ONE], [("either", [ADD_ONE], [("end", 1)])]]))
        self.assertEqual(found[0, 1].basis(), [step])
        self.assertEqual(found[0, 0].basis(), [[1, 0, 0, 2, 1, 0, 0, 0, 1]])

    def check(self, cells, bodies):
        book = Book(cells, bodies)
        found = table(book)
        self.assertEqual(bases_of(found), reference.whole_table(cells + 2, bodies))
        for procedure, way in found:
            self.assertTrue(body_space(book, found, (procedure, way)) == found[procedure, way])
            self.assertLessEqual(len(found[procedure, way]), 1 + (cells + 1) * (cells + 2))
        self.assertIsNone(table_fault(book, found))
        return book, found

    def test_random_books(self):
        for seed in range(150):
            source = random.Random(seed)
            cells, procedures = source.randint(1, 3), source.randint(1, 3)
            self.check(cells, reference.random_bodies(seed, cells, procedures))

    def test_the_matrices_of_short_runs_lie_in_it_and_span_it(self):
        spanned = 0
        for seed in range(60):
            cells, procedures = 1 + seed % 2, 1 + seed % 3
            bodies = reference.random_bodies(seed, cells, procedures)
            book = Book(cells, bodies)
            found = table(book)
            size = (cells + 2) * (cells + 2)
            for procedure in range(procedures):
                ways = {0: [], 1: []}
                for bits, way, _ in reference.all_runs(cells, bodies, procedure, 8, 40):
                    ways[way].append(run_matrix(book, procedure, bits)[1])
                for way, matrices in ways.items():
                    self.assertTrue(Space(size, matrices).within(found[procedure, way]))
                    spanned += len(matrices) > 0 and Space(size, matrices) == found[procedure, way]
        self.assertGreater(spanned, 60)

    def test_books_with_calls_in_loops(self):
        row = [1, 2, 0, 1]
        bodies = [
            [("again", [("call", 1, row, [[("set", 1, [1, 1, 1, 1])], [("end", 1)]])]), ("call", 0, [0, 0, 1, 1], [[], []])],
            [("either", [("keep", [1], [("call", 0, row, [[("end", 1)], []])])], [("set", 0, [0, 1, 2, -1])])],
        ]
        self.check(2, bodies)
        bodies[0][1] = ("either", [], [("call", 0, [0, 0, 1, 1], [[], []])])
        self.check(2, bodies)
        self.check(2, [*bodies, [("again", [("call", 2, row, [[], []]), ("carry", row)]), ("end", 1)]])

    def test_every_answer_is_new(self):
        book = Book(1, [[("again", [ADD_ONE])]])
        first = table(book)
        kept = bases_of(first)
        first[0, 0].basis().clear()
        first.clear()
        self.assertEqual(bases_of(table(book)), kept)


class BodySpaceTest(unittest.TestCase):
    def check(self, cells, bodies, lists):
        book = Book(cells, bodies)
        width = cells + 2
        spaces = spaces_of(width, lists)
        before = bases_of(spaces)
        lists = {cls: reference.canonical(matrices) for cls, matrices in lists.items()}
        for procedure, body in enumerate(bodies):
            expected = reference.body_spaces(width, lists, body)
            for way in (0, 1):
                found = body_space(book, spaces, (procedure, way))
                self.assertEqual(found.basis(), expected[way])
                self.assertEqual(found.width(), width * width)
        self.assertEqual(bases_of(spaces), before)

    def test_tables_of_zero_spaces(self):
        for seed in range(60):
            cells, procedures = 1 + seed % 3, 1 + seed % 2
            bodies = reference.random_bodies(seed, cells, procedures)
            self.check(cells, bodies, {(p, way): [] for p in range(procedures) for way in (0, 1)})

    def test_tables_of_whole_spaces(self):
        for seed in range(12):
            cells = 1 + seed % 2
            size = (cells + 2) * (cells + 2)
            units = [[int(i == j) for j in range(size)] for i in range(size)]
            bodies = reference.random_bodies(seed, cells, 2)
            self.check(cells, bodies, {(p, way): units for p in range(2) for way in (0, 1)})

    def test_tables_of_any_spaces(self):
        for seed in range(60):
            source = random.Random(seed)
            cells, procedures = source.randint(1, 2), source.randint(1, 2)
            bodies = reference.random_bodies(seed, cells, procedures)
            self.check(cells, bodies, random_table(source, cells, procedures, seed % 2))

    def test_kept_rows_are_multiplied_by_the_first_number(self):
        # The called matrices have first number 0 and 3: behind the call the row of n is [0, 0, 0] and [0, 0, 3].
        book = Book(1, [[call(1)], [("keep", [0], [call(1)])]])
        zero = {cls: Space(9, []) for cls in ((0, 0), (0, 1), (1, 0), (1, 1))}
        for first in (0, 3):
            given = {**zero, (1, 0): Space(9, [[first, 0, 0, 4, 5, 6, 7, 8, 9]])}
            self.assertEqual(body_space(book, given, (0, 0)).basis(), reference.canonical(
                [[first, 0, 0, 4, 5, 6, 0, 0, first]]))
            self.assertEqual(body_space(book, given, (1, 0)).basis(), reference.canonical(
                [[first, 0, 0, 0, first, 0, 0, 0, first]]))

    def test_the_row_of_a_call_comes_first(self):
        book = Book(1, [[call(1, row=(2, 3, 4))], []])
        given = {cls: Space(9, []) for cls in ((0, 0), (0, 1), (1, 0), (1, 1))}
        given[1, 0] = Space(9, [[1, 0, 0, 0, 0, 1, 0, 0, 0]])
        # Cell 0 becomes n, which is 2 + 3 * cell + 4 * n there.
        self.assertEqual(body_space(book, given, (0, 0)).basis(), [[1, 0, 0, 2, 3, 4, 0, 0, 1]])

    def test_a_loop_is_the_least_closed_space(self):
        book = Book(1, [[("again", [("set", 0, [0, 2, 0]), ("either", [], [("end", 1)])])]])
        given = {(0, 0): Space(9, []), (0, 1): Space(9, [])}
        double = [1, 0, 0, 0, 2, 0, 0, 0, 1]
        self.assertTrue(body_space(book, given, (0, 0)) == Space(9, [reference.identity(3), double]))
        self.assertTrue(body_space(book, given, (0, 1)) == Space(9, [double, reference.identity(3)]))

    def test_errors_in_their_order(self):
        book = Book(1, [[], []])
        good = table(book)
        wrong_tables = [
            None, [], (), 0, "", {}, {(0, 0): good[0, 0]}, {**good, (2, 0): good[0, 0]}, {**good, "x": good[0, 0]},
            {cls: space.basis() for cls, space in good.items()}, {**good, (1, 1): None}, {**good, (0, 1): Space(4, [])},
            {**good, (0, 0): Space(16, [])}, {**good, (0, 0): []}, list(good), [good],
            {**{cls: good[cls] for cls in list(good)[1:]}, (0, 2): good[0, 0]},
        ]
        for thing in wrong_tables:
            for cls in ((0, 0), None):
                with self.subTest(thing=thing), self.assertRaises(NoTable):
                    body_space(book, thing, cls)
        for cls in (None, 0, [0, 0], (0,), (0, 0, 0), (2, 0), (-1, 0), (0, 2), (0, -1), (True, 0), (0, False), (0, True),
                    ("0", 0), (0, "0"), (None, 0), ((0, 0),), "00", {}):
            with self.subTest(cls=cls), self.assertRaises(NoClass):
                body_space(book, good, cls)


class TableFaultTest(unittest.TestCase):
    def test_the_form(self):
        book = Book(1, [[], []])
        good = table(book)
        for thing in (None, [], (), 0, "", True, {}, {(0, 0): good[0, 0]}, {**good, (2, 0): good[0, 0]}, {**good, 0: 0},
                      {**good, (1, 1): None}, {**good, (1, 1): Space(4, [])}, {**good, (1, 1): [[0] * 9]}, [good], good[0, 0]):
            with self.subTest(thing=thing):
                self.assertEqual(table_fault(book, thing), ("form",))
        other = Book(2, [[], []])
        self.assertEqual(table_fault(other, good), ("form",))
        self.assertEqual(table_fault(Book(1, [[]]), good), ("form",))

    def test_greater_closed_tables(self):
        for seed in range(25):
            cells, procedures = 1 + seed % 2, 1 + seed % 3
            book = Book(cells, reference.random_bodies(seed, cells, procedures))
            size = (cells + 2) * (cells + 2)
            self.assertIsNone(table_fault(book, {cls: whole(size) for cls in table(book)}))
            rows = [[int(i == j) for j in range(size)] for i in [0, *range(cells + 2, size)]]
            self.assertIsNone(table_fault(book, {cls: Space(size, rows) for cls in table(book)}))

    def test_the_first_class_that_is_not_closed(self):
        book = Book(1, [[ADD_ONE], [("either", [], [("end", 1)])], [("set", 0, [0, 0, 1]), ("end", 1)]])
        good = table(book)
        zero = Space(9, [])
        self.assertIsNone(table_fault(book, good))
        for cls in ((0, 0), (1, 0), (1, 1), (2, 1)):
            self.assertEqual(table_fault(book, {**good, cls: zero}), ("closed", *cls))
        self.assertEqual(table_fault(book, {**good, (1, 1): zero, (2, 1): zero}), ("closed", 1, 1))
        self.assertEqual(table_fault(book, {**good, (2, 1): zero, (1, 0): zero}), ("closed", 1, 0))
        self.assertEqual(table_fault(book, {cls: zero for cls in good}), ("closed", 0, 0))

    def test_a_greater_space_may_open_another_class(self):
        book = Book(1, [[call(1)], []])
        good = table(book)
        greater = {**good, (1, 0): whole(9)}
        self.assertEqual(table_fault(book, greater), ("closed", 0, 0))
        self.assertIsNone(table_fault(book, {**greater, (0, 0): whole(9)}))
        ended = Book(1, [[call(1, [("end", 1)], [])], []])
        self.assertEqual(table_fault(ended, {**table(ended), (1, 0): whole(9)}), ("closed", 0, 1))

    def test_random_tables_by_the_words(self):
        faults = set()
        for seed in range(60):
            source = random.Random(seed)
            cells, procedures = source.randint(1, 2), source.randint(1, 2)
            bodies = reference.random_bodies(seed, cells, procedures)
            lists = reference.whole_table(cells + 2, bodies)
            changed = source.choice(sorted(lists))
            extra = random_table(source, cells, procedures, True)[changed]
            lists[changed] = lists[changed][source.choice([0, 1]):] + extra
            spaces = spaces_of(cells + 2, lists)
            expected = None
            for procedure, way in sorted(lists, reverse=True):
                found = reference.body_spaces(cells + 2, lists, bodies[procedure])[way]
                if reference.rank(found + lists[procedure, way]) > reference.rank(lists[procedure, way]):
                    expected = ("closed", procedure, way)
            self.assertEqual(table_fault(Book(cells, bodies), spaces), expected)
            faults.add(expected)
        self.assertGreater(len(faults), 3)
        self.assertIn(None, faults)

    def test_the_thing_stays(self):
        book = Book(1, [[ADD_ONE]])
        good = table(book)
        kept = bases_of(good)
        table_fault(book, good)
        self.assertEqual(bases_of(good), kept)


if __name__ == "__main__":
    unittest.main()
