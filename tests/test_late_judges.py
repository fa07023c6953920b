"""Point 43: judges of what is said about late joiners."""

import copy
import unittest

from pairtools import bases
from sendertools import let_histories, value
from sharedboard.books import Book
from sharedboard.deeds import done
from sharedboard.errors import NoClaims, NoMany
from sharedboard.late import after, entries, late_run, level, when_sure
from sharedboard.latejudges import from_fault, late_fault
from sharedboard.senders import Sender, free
from sharedboard.spaces import Space
from test_fault_judges import FULL, LEVEL, put_book
from test_faults import NO_MANY, two_cells
from test_healing import shift_book
from test_late import late_cases, wrong_claims

A, B, C = (0, 0), (1, 0), (2, 0)
SAME = [[[0, 1, -1]]]


class FromFaultTest(unittest.TestCase):
    def test_the_tables_of_when_sure_and_the_further_ones(self):
        asked = 0
        for book, sender, claims in late_cases(120):
            told = when_sure(book, sender, claims)
            if told[0] == "never":
                continue
            k = told[1]
            tables = [after(book, sender, many) for many in range(max(14, k) + 1)]
            self.assertEqual(tables[:k + 1], told[2])
            self.assertIsNone(from_fault(book, sender, claims, k, tables))
            self.assertIsNone(from_fault(book, sender, claims, 14, tables))
            if k > 0:
                self.assertEqual(from_fault(book, sender, claims, k - 1, tables), ("claim", k - 1))
                asked += 1
        self.assertGreater(asked, 8)

    def test_greater_tables(self):
        book = put_book()
        sender = free(book)
        self.assertIsNone(from_fault(book, sender, SAME, 1, [{0: FULL}, {0: LEVEL}]))
        self.assertIsNone(from_fault(book, sender, SAME, 2, [{0: FULL}, {0: FULL}, {0: LEVEL}]))
        self.assertIsNone(from_fault(book, sender, SAME, 2, [{0: FULL}, {0: FULL}, {0: LEVEL}, {0: LEVEL}]))
        self.assertIsNone(from_fault(book, sender, [[]], 0, [{0: FULL}]))

    def test_the_form(self):
        book = put_book()
        good = {0: FULL}
        for thing in (
            None, 0, "", (), {}, (good,), [], good, [None], [good, None], [[good]], [{1: FULL}], [{-1: FULL}], [{"0": FULL}],
            [{None: FULL}], [{A: FULL}], [{0: None}], [{0: FULL.basis()}], [{0: Space(2, [])}], [good, {0: Space(4, [])}],
            [{0: FULL, 1: FULL}], True,
        ):
            with self.subTest(thing=thing):
                self.assertEqual(from_fault(book, free(book), [[]], 0, thing), ("form",))
        tables = [{0: FULL}] * 201
        for k in (0, 1, 5, 200):
            self.assertIsNone(from_fault(book, free(book), [[]], k, tables[:k + 1]))
            self.assertEqual(from_fault(book, free(book), [[]], k, tables[:k]), ("form",))

    def test_entries(self):
        book = put_book()
        for table in ({}, {0: LEVEL}, {0: Space(3, [[1, 0, 0], [0, 0, 1]])}, {0: Space(3, [])}):
            self.assertEqual(from_fault(book, free(book), SAME, 1, [table, {0: LEVEL}]), ("entries",))
        sender = Sender(book, [[(A, 1)], [(A, 0)]])
        for table in ({0: FULL}, {1: FULL}, {0: FULL, 1: LEVEL}):
            self.assertEqual(from_fault(book, sender, [[], []], 0, [table]), ("entries",))
        # What is not there behind the start alone is asked too.
        first = Sender(book, [[(A, 1)], [(A, 1)]])
        self.assertEqual(from_fault(book, first, [[], []], 0, [{1: FULL}]), ("entries",))
        self.assertIsNone(from_fault(book, first, [[], []], 0, [{0: Space(3, [[1, 0, 0], [0, 0, 1]]), 1: FULL}]))

    def test_next(self):
        book = put_book()
        sender = free(book)
        one = Space(3, [[1, 0, 0]])
        for tables, index in (
            ([{0: FULL}, {}], 0), ([{0: FULL}, {0: one}], 0), ([{0: FULL}, {0: FULL}, {0: one}], 1),
            ([{0: FULL}, {0: LEVEL}, {0: LEVEL}, {0: Space(3, [])}], 2), ([{0: FULL}, {0: LEVEL}, {}], 1),
            ([{0: FULL}] * 200 + [{0: one}], 199),
        ):
            self.assertEqual(from_fault(book, sender, SAME, 0, tables), ("next", index))

    def test_closed(self):
        # A sets the cell to n, B leaves it as it is.
        book = Book(1, [[("set", 0, [0, 0, 1])], []])
        turns = Sender(book, [[(A, 1)], [(B, 0)]])
        tables = [{0: FULL, 1: FULL}, {0: FULL, 1: LEVEL}, {0: LEVEL, 1: LEVEL}]
        for many in (1, 2, 3):
            self.assertIsNone(from_fault(book, turns, [[], []], 0, tables[:many]))
        self.assertEqual(from_fault(book, turns, [[], []], 0, [*tables[:2], {0: LEVEL, 1: FULL}]), ("closed",))
        self.assertIsNone(from_fault(book, turns, [[], []], 0, [*tables[:2], {0: LEVEL, 1: FULL}, {0: FULL, 1: LEVEL}]))

    def test_closed_concerns_states_that_do_not_come(self):
        book = Book(1, [[("set", 0, [0, 0, 1])], []])
        sender = Sender(book, [[(A, 0)], [(B, 0), (B, 1)]])
        for space in (LEVEL, Space(3, []), Space(3, [[0, 1, 1]])):
            self.assertIsNone(from_fault(book, sender, [[], []], 1, [{0: FULL}, {0: LEVEL, 1: space}]))
        for space in (FULL, Space(3, [[0, 0, 1]])):
            self.assertEqual(from_fault(book, sender, [[], []], 1, [{0: FULL}, {0: LEVEL, 1: space}]), ("closed",))

    def test_a_state_left_out_and_the_zero_space(self):
        book = put_book()
        sender = Sender(book, [[(A, 0)], [(A, 1)]])
        zero = Space(3, [])
        self.assertEqual(from_fault(book, sender, [[], []], 0, [{0: FULL, 1: zero}, {0: FULL}]), ("next", 0))
        self.assertIsNone(from_fault(book, sender, [[], []], 0, [{0: FULL, 1: zero}, {0: FULL, 1: zero}]))
        # Claims about a state hold on the zero space, and where the state is not a key.
        for table in ({0: FULL}, {0: FULL, 1: zero}):
            self.assertIsNone(from_fault(book, sender, [[], [[1, 0, 0]]], 0, [table]))
        first = Sender(book, [[(A, 1)], [(A, 1)]])
        start = Space(3, [[1, 0, 0], [0, 0, 1]])
        self.assertIsNone(from_fault(book, first, [[[1, 0, 0]], SAME[0]], 1, [{0: start, 1: FULL}, {1: LEVEL}]))

    def test_claim(self):
        book = put_book()
        sender = free(book)
        for k, tables, index in (
            (0, [{0: FULL}, {0: LEVEL}], 0), (1, [{0: FULL}, {0: FULL}, {0: LEVEL}], 1), (1, [{0: FULL}, {0: LEVEL}, {0: FULL}], 2),
            (2, [{0: FULL}, {0: LEVEL}, {0: FULL}], 2), (1, [{0: FULL}, {0: LEVEL}, {0: LEVEL}, {0: FULL}, {0: FULL}], 3),
        ):
            self.assertEqual(from_fault(book, sender, SAME, k, tables), ("claim", index))
        self.assertEqual(from_fault(book, sender, [[[0, 0, 0], [1, 0, 0]]], 0, [{0: FULL}]), ("claim", 0))
        two = Sender(book, [[(A, 1)], [(A, 0)]])
        self.assertEqual(from_fault(book, two, [[], [[0, 1, -1]]], 0, [{0: FULL, 1: FULL}] * 3 + [{0: LEVEL, 1: LEVEL}]), ("claim", 0))

    def test_the_first_that_applies(self):
        book = put_book()
        sender = free(book)
        zero = Space(3, [])
        self.assertEqual(from_fault(book, sender, SAME, 0, [{0: LEVEL}, {}, None]), ("form",))
        self.assertEqual(from_fault(book, sender, SAME, 0, [{0: LEVEL}, {}]), ("entries",))
        self.assertEqual(from_fault(book, sender, SAME, 0, [{0: FULL}, {0: zero}]), ("next", 0))
        still = Book(1, [[("set", 0, [0, 0, 1])], []])
        far = Sender(still, [[(A, 0)], [(B, 0), (B, 1)]])
        self.assertEqual(from_fault(still, far, [SAME[0], SAME[0]], 0, [{0: FULL}, {0: LEVEL, 1: FULL}]), ("closed",))

    def test_errors(self):
        book = two_cells()
        sender = Sender(book, [[(A, 0), (B, 1)], [(A, 1)]])
        for claims in wrong_claims(5):
            for k in (0, *NO_MANY):
                with self.subTest(claims=claims), self.assertRaises(NoClaims):
                    from_fault(book, sender, claims, k, None)
        for k in NO_MANY:
            for thing in (None, [entries(book, sender)]):
                with self.subTest(k=k), self.assertRaises(NoMany):
                    from_fault(book, sender, [[], []], k, thing)

    def test_the_arguments_stay(self):
        book = put_book()
        thing, claims = [{0: FULL}, {0: LEVEL}], copy.deepcopy(SAME)
        from_fault(book, free(book), claims, 1, thing)
        self.assertEqual([bases(table) for table in thing], [{0: FULL.basis()}, {0: LEVEL.basis()}])
        self.assertEqual(claims, SAME)


class LateFaultTest(unittest.TestCase):
    a, b, c = (0, [], 1), (1, [], 0), (2, [], 0)

    def test_the_form(self):
        book = shift_book()
        a, board = self.a, (0, 1, 2)
        claims = level(book, free(book), [0])
        for thing in (
            None, 0, "", (), [], {}, [[a], board, [a]], ([a], board), ([a], [a]), ([a], board, [a], [a]), (a, board, [a]),
            ([a], board, a), ((a,), board, [a]), ([a], board, (a,)), ([], board, []), ([a], board, [a, a]), ([a], board, None),
            (None, board, [a]), ([a, None], board, [a]), ([a], board, [None]), ([(0, [], True)], board, [a]), ([(3, [], 0)], board, [a]),
            ([a], board, [(0, [0], 1)]), ([a], [0, 1, 2], [a]), ([a], (0, 1), [a]), ([a], (0, 1, 2, 3), [a]), ([a], None, [a]),
            ([a], (0, True, 2), [a]), ([a], (0, None, 2), [a]), True,
        ):
            with self.subTest(thing=thing):
                self.assertEqual(late_fault(book, free(book), claims, 1, thing), ("form",))
        self.assertIsNone(late_fault(book, free(book), claims, 0, ([], (1, 1, 2), [])))

    def test_let_is_counted_through_both_lists(self):
        book = shift_book()
        a, b = self.a, self.b
        sender = Sender(book, [[(A, 0), (B, 1)], [(B, 1)]])
        for before, deeds, index in (([b, a], [b], 1), ([a, a, b], [a], 3), ([a], [a, b, a, b], 3), ([], [b, b, b, a], 3)):
            self.assertEqual(late_fault(book, sender, [[], []], len(deeds), (before, (0, 0, 0), deeds)), ("let", index))
        self.assertEqual(late_fault(book, Sender(book, [[(B, 0)]]), [[]], 1, ([], (1, 2, 3), [a])), ("let", 0))

    def test_kept(self):
        book = shift_book()
        a, b, c = self.a, self.b, self.c
        claims = level(book, free(book), [0, 1, 2])
        for before, board, deeds in (([], (0, 0, 0), []), ([a], (1, 0, 0), []), ([], (5, 6, 7), [a, a, a]), ([a, a], (9, 1, 0), [c]),
                                     ([a], (7, 7, 0), [b, c])):
            self.assertEqual(late_fault(book, free(book), claims, len(deeds), (before, board, deeds)), ("kept",))
        for before, board, deeds in (([], (0, 0, 1), []), ([a], (0, 0, 0), []), ([], (5, 6, 7), [a, a]), ([a, a], (9, 2, 0), [c])):
            self.assertIsNone(late_fault(book, free(book), claims, len(deeds), (before, board, deeds)))

    def test_each_state_at_which_they_end_is_asked(self):
        book = shift_book()
        sender = Sender(book, [[(A, 0), (A, 1)], [(B, 1)]])
        form = [0, 1, 0, 0, -1, 0, 0]
        thing = ([self.a], (5, 0, 0), [])
        for claims in ([[form], []], [[], [form]]):
            self.assertIsNone(late_fault(book, sender, claims, 0, thing))
        self.assertIsNone(late_fault(book, sender, [[], [[0, 0, 0, 0, 0, 0, 0], [-5, 1, 0, 0, 3, 0, 0]]], 0, thing))
        self.assertEqual(late_fault(book, sender, [[[-16, 1, 0, 0, 3, 0, 0]], []], 0, thing), ("kept",))
        self.assertEqual(late_fault(book, sender, [[form], []], 1, ([self.a], (5, 0, 0), [self.b])), ("kept",))

    def test_values_that_are_very_great(self):
        big = 2 ** 61 - 1
        book = put_book()
        for n in (big, big * (big + 2), -big):
            self.assertIsNone(late_fault(book, free(book), SAME, 0, ([(0, [], n)], (0,), [])))
            self.assertEqual(late_fault(book, free(book), SAME, 0, ([(0, [], n)], (n,), [])), ("kept",))

    def test_its_own_runs(self):
        for book, sender, claims in late_cases(40, 3):
            for many in (0, 3, 60):
                told = late_run(book, sender, claims, many)
                if told is not None:
                    self.assertIsNone(late_fault(book, sender, claims, many, told))
                    self.assertEqual(late_fault(book, sender, claims, many + 1, told), ("form",))

    def test_by_trying(self):
        seen = set()
        for book, sender, claims in late_cases(25):
            for history, states in let_histories(book, sender, 2):
                for many in range(len(history) + 1):
                    for board in ((0,) * book.cells(), tuple(range(4, 4 + book.cells()))):
                        before, deeds = history[:len(history) - many], history[len(history) - many:]
                        pair = [1, *done(book, history), *done(book, deeds, board=board)]
                        broken = any(value(form, pair) for state in states for form in claims[state])
                        found = late_fault(book, sender, claims, many, (before, board, deeds))
                        self.assertEqual(found, None if broken else ("kept",))
                        seen.add(found)
        self.assertEqual(len(seen), 2)

    def test_errors(self):
        book = two_cells()
        sender = Sender(book, [[(A, 0), (B, 1)], [(A, 1)]])
        for claims in wrong_claims(5):
            for many in (0, *NO_MANY):
                with self.subTest(claims=claims), self.assertRaises(NoClaims):
                    late_fault(book, sender, claims, many, None)
        for many in NO_MANY:
            for thing in (None, ([], (0, 0), [])):
                with self.subTest(many=many), self.assertRaises(NoMany):
                    late_fault(book, sender, [[], []], many, thing)

    def test_the_arguments_stay(self):
        book = shift_book()
        thing = ([(0, [], 1), (1, [], 2)], (1, 2, 3), [(2, [], 3)])
        late_fault(book, free(book), level(book, free(book), [0]), 1, thing)
        self.assertEqual(thing, ([(0, [], 1), (1, [], 2)], (1, 2, 3), [(2, [], 3)]))


if __name__ == "__main__":
    unittest.main()
