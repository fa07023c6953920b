"""Point 41: judges of healing and of histories behind which nothing is healed."""

import unittest

from pairtools import bases, classes_of, faulty_ends
from sendertools import let_histories
from sharedboard.books import Book
from sharedboard.deeds import done
from sharedboard.errors import NoFault, NoMany
from sharedboard.faultjudges import fault_run_fault, healed_fault
from sharedboard.faults import fault_after, fault_run, healed
from sharedboard.senders import Sender, free
from sharedboard.spaces import Space
from test_faults import FAULTS, NO_FAULTS, NO_MANY, two_cells
from test_healing import healing_cases, shift_book

A, B, C = (0, 0), (1, 0), (2, 0)


def put_book():
    """Return a book in which A sets the only cell to n, and B to 7."""
    return Book(1, [[("set", 0, [0, 0, 1])], [("set", 0, [7, 0, 0])]])


FULL = Space(3, [[1, 0, 0], [0, 1, 0], [0, 0, 1]])
LEVEL = Space(3, [[1, 0, 0], [0, 1, 1]])


class HealedFaultTest(unittest.TestCase):
    def test_the_tables_of_healed(self):
        asked = 0
        for book, sender in healing_cases(60):
            for fault in FAULTS:
                told = healed(book, sender, fault)
                if told[0] == "from":
                    self.assertIsNone(healed_fault(book, sender, fault, told[2]))
                    more = [*told[2], fault_after(book, sender, fault, told[1] + 1)]
                    self.assertIsNone(healed_fault(book, sender, fault, more))
                    fewer = healed_fault(book, sender, fault, told[2][:-1])
                    self.assertEqual(fewer, ("level",) if told[1] else ("form",))
                    asked += 1
        self.assertGreater(asked, 25)

    def test_greater_tables(self):
        book = put_book()
        sender = free(book)
        self.assertIsNone(healed_fault(book, sender, "lost", [{0: FULL}, {0: LEVEL}]))
        self.assertIsNone(healed_fault(book, sender, "lost", [{0: FULL}, {0: FULL}, {0: LEVEL}, {0: LEVEL}]))
        one = Sender(book, [[(B, 0)]])
        # Behind the first deed of B all are level.
        entries = Space(3, [[1, 0, 0], [0, 1, 0], [0, 0, 1]])
        self.assertIsNone(healed_fault(book, one, "exchanged", [{0: LEVEL}]))
        self.assertIsNone(healed_fault(book, one, "lost", [{0: entries}, {0: Space(3, [[1, 7, 7]])}]))

    def test_the_form(self):
        book = put_book()
        good = {0: FULL}
        for thing in (
            None, 0, "", (), {}, (good,), [], good, [None], [good, None], [[good]], [{1: FULL}], [{-1: FULL}], [{"0": FULL}],
            [{None: FULL}], [{(0,): FULL}], [{A: FULL}], [{0: None}], [{0: FULL.basis()}], [{0: Space(2, [])}],
            [{0: Space(4, [])}], [{0: Space(9, [])}], [good, {0: Space(2, [])}], [{0: FULL, 1: FULL}], True, [good, good, []],
        ):
            with self.subTest(thing=thing):
                self.assertEqual(healed_fault(book, free(book), "lost", thing), ("form",))

    def test_entries(self):
        book = put_book()
        for table in ({}, {0: LEVEL}, {0: Space(3, [[1, 0, 0], [0, 0, 1]])}, {0: Space(3, [])}):
            self.assertEqual(healed_fault(book, free(book), "lost", [table, {0: LEVEL}]), ("entries",))
        sender = Sender(book, [[(A, 1)], [(A, 0)]])
        for table in ({0: FULL}, {1: FULL}, {0: FULL, 1: LEVEL}):
            self.assertEqual(healed_fault(book, sender, "lost", [table, {0: LEVEL, 1: LEVEL}]), ("entries",))
        self.assertIsNone(healed_fault(book, sender, "lost", [{0: FULL, 1: FULL}, {0: LEVEL, 1: LEVEL}]))

    def test_next(self):
        book = put_book()
        sender = free(book)
        one = Space(3, [[1, 0, 0]])
        for tables, index in (
            ([{0: FULL}, {}], 0), ([{0: FULL}, {0: one}], 0), ([{0: FULL}, {0: FULL}, {0: one}], 1),
            ([{0: FULL}, {0: LEVEL}, {0: LEVEL}, {0: Space(3, [])}], 2), ([{0: FULL}, {0: FULL}, {0: FULL}, {0: FULL}, {}], 3),
            ([{0: FULL}, {0: FULL}, {0: FULL}, {0: one}, {0: LEVEL}], 2),
        ):
            self.assertEqual(healed_fault(book, sender, "lost", tables), ("next", index))

    def test_the_ways_of_states_with_the_zero_space_are_asked_too(self):
        book = put_book()
        sender = Sender(book, [[(A, 0)], [(A, 1)]])
        zero = Space(3, [])
        self.assertEqual(healed_fault(book, sender, "lost", [{0: FULL, 1: zero}, {0: LEVEL}]), ("next", 0))
        self.assertIsNone(healed_fault(book, sender, "lost", [{0: FULL, 1: zero}, {0: LEVEL, 1: zero}]))

    def test_a_table_without_states_leads_nowhere(self):
        book = put_book()
        self.assertEqual(healed_fault(book, free(book), "lost", [{0: FULL}, {0: LEVEL}, {}]), ("next", 1))

    def test_level(self):
        book = put_book()
        for last in (FULL, Space(3, [[1, 0, 0], [0, 1, 1], [0, 0, 1]])):
            self.assertEqual(healed_fault(book, free(book), "lost", [{0: FULL}, {0: last}]), ("level",))
        sender = Sender(book, [[(A, 0)], [(A, 1)]])
        self.assertEqual(healed_fault(book, sender, "lost", [{0: FULL, 1: LEVEL}, {0: LEVEL, 1: FULL}]), ("level",))
        two = two_cells()
        space = Space(5, [[1, 0, 0, 0, 0], [0, 1, 1, 1, 1], [0, 0, 1, 0, 0], [0, 0, 0, 0, 1]])
        self.assertEqual(healed_fault(two, Sender(two, [[(A, 0)]]), "exchanged", [{0: space}]), ("level",))
        self.assertIsNone(healed_fault(two, Sender(two, [[(A, 0)]]), "exchanged", [{0: Space(5, [[1, 0, 0, 0, 0], [0, 1, 1, 1, 1]])}]))

    def test_the_first_that_applies(self):
        book = put_book()
        sender = free(book)
        self.assertEqual(healed_fault(book, sender, "lost", [{0: LEVEL}, {}, None]), ("form",))
        self.assertEqual(healed_fault(book, sender, "lost", [{0: LEVEL}, {}, {0: FULL}]), ("entries",))
        self.assertEqual(healed_fault(book, sender, "lost", [{0: FULL}, {}, {0: FULL}]), ("next", 0))

    def test_many_tables(self):
        book = shift_book()
        sender = Sender(book, [[(A, 0)]])
        tables = [fault_after(book, sender, "lost", many) for many in range(4)]
        self.assertIsNone(healed_fault(book, sender, "lost", tables + [tables[3]] * 200))
        self.assertEqual(healed_fault(book, sender, "lost", tables + [tables[3]] * 200 + [{0: Space(7, [])}]), ("next", 203))

    def test_equal_tables_one_after_another(self):
        # B leaves the cell as it is: what is at state 1 comes to state 0.
        book = Book(1, [[("set", 0, [0, 0, 1])], []])
        sender = Sender(book, [[(A, 1)], [(B, 0)]])
        turned = {0: LEVEL, 1: FULL}
        self.assertEqual(healed_fault(book, sender, "lost", [turned] * 2), ("next", 0))
        self.assertEqual(healed_fault(book, sender, "lost", [turned] * 3), ("next", 0))
        self.assertEqual(healed_fault(book, sender, "lost", [turned] * 4), ("next", 0))
        ahead = [{0: FULL, 1: FULL}, {0: FULL, 1: LEVEL}]
        for many in (2, 3, 4):
            self.assertEqual(healed_fault(book, sender, "lost", ahead + [turned] * many), ("next", 2))
        self.assertEqual(healed_fault(book, sender, "lost", [*ahead[:1] * 3, *ahead, turned, turned]), ("next", 5))
        self.assertIsNone(healed_fault(book, sender, "lost", [*ahead, {0: LEVEL, 1: LEVEL}]))
        for many in (2, 3, 4):
            tables = [{0: LEVEL, 1: LEVEL}, *[turned] * many]
            self.assertEqual(healed_fault(book, sender, "exchanged", tables), ("next", 1))

    def test_no_fault(self):
        book = put_book()
        for fault in NO_FAULTS:
            for thing in (None, [{0: FULL}, {0: LEVEL}]):
                with self.subTest(fault=fault), self.assertRaises(NoFault):
                    healed_fault(book, free(book), fault, thing)

    def test_the_arguments_stay(self):
        book = put_book()
        thing = [{0: FULL}, {0: LEVEL}]
        healed_fault(book, free(book), "lost", thing)
        self.assertEqual([bases(table) for table in thing], [{0: FULL.basis()}, {0: LEVEL.basis()}])
        self.assertEqual(len(thing), 2)


class FaultRunFaultTest(unittest.TestCase):
    a, b, c = (0, [], 1), (1, [], 0), (2, [], 0)

    def test_the_form(self):
        book = shift_book()
        a = self.a
        for thing in (
            None, 0, "", (), [], {}, [[a], [a]], ([a],), ([a], [a], [a]), (a, [a]), ([a], a), ((a,), [a]), ([a], (a,)), ([], [a]),
            ([a], []), ([a], [a, a]), ([a], None), (None, [a]), ([a, None], [a]), ([a], [None]), ([(0, [], True)], [a]),
            ([(3, [], 0)], [a]), ([a], [(0, [0], 1)]), ([[0, [], 1]], [a]), True,
        ):
            with self.subTest(thing=thing):
                self.assertEqual(fault_run_fault(book, free(book), "lost", 1, thing), ("form",))
        self.assertEqual(fault_run_fault(book, free(book), "exchanged", 1, ([a], [a])), ("form",))
        self.assertEqual(fault_run_fault(book, free(book), "lost", 0, ([], [])), ("form",))
        self.assertIsNone(fault_run_fault(book, free(book), "lost", 0, ([a], [])))
        self.assertIsNone(fault_run_fault(book, free(book), "exchanged", 0, ([a, (0, [], 2)], [])))

    def test_let_is_counted_through_both_lists(self):
        book = shift_book()
        a, b = self.a, self.b
        sender = Sender(book, [[(A, 0), (B, 1)], [(B, 1)]])
        for before, after, index in (([b, a], [b], 1), ([a, a, b], [a], 3), ([a], [a, b, a, b], 3), ([b], [b, b, b, a], 4)):
            self.assertEqual(fault_run_fault(book, sender, "lost", len(after), (before, after)), ("let", index))
        self.assertEqual(fault_run_fault(book, Sender(book, [[(B, 0)]]), "lost", 0, ([a], [])), ("let", 0))
        # What the other does need not be let.
        turns = Sender(book, [[(A, 1)], [(B, 0)]])
        self.assertEqual(fault_run_fault(book, turns, "exchanged", 1, ([a, b, a, b], [a])), None)

    def test_kept(self):
        book = shift_book()
        a, b, c = self.a, self.b, self.c
        for before, after in (([a], [a, a, a]), ([b], []), ([c], [a]), ([a, a], [c, b, c, a, a, a])):
            self.assertEqual(fault_run_fault(book, free(book), "lost", len(after), (before, after)), ("kept",))
        for before, after in (([a], [a, a]), ([a, c], [b, a])):
            self.assertIsNone(fault_run_fault(book, free(book), "lost", len(after), (before, after)))
        self.assertEqual(fault_run_fault(book, free(book), "exchanged", 0, ([a, a], [])), ("kept",))
        self.assertEqual(fault_run_fault(book, free(book), "exchanged", 1, ([a, (0, [], 2)], [a])), None)
        self.assertEqual(fault_run_fault(book, free(book), "exchanged", 3, ([a, (0, [], 2)], [a, a, a])), ("kept",))

    def test_boards_that_differ_by_very_much(self):
        # What is 0 for a modulus need not be 0.
        big = 2 ** 61 - 1
        book = put_book()
        for n in (big, big * (big + 2), -big):
            self.assertIsNone(fault_run_fault(book, free(book), "lost", 0, ([(0, [], n)], [])))
        self.assertEqual(fault_run_fault(book, free(book), "lost", 0, ([(0, [], 0)], [])), ("kept",))

    def test_its_own_runs(self):
        for book, sender in healing_cases(40, 3):
            for fault in FAULTS:
                for many in (0, 3, 60):
                    told = fault_run(book, sender, fault, many)
                    if told is not None:
                        self.assertIsNone(fault_run_fault(book, sender, fault, many, told))
                        self.assertEqual(fault_run_fault(book, sender, fault, many + 1, told), ("form",))

    def test_by_trying(self):
        seen = set()
        for book, sender in healing_cases(25):
            for fault, least in (("lost", 1), ("exchanged", 2)):
                for history, _ in let_histories(book, sender, 3):
                    for many in range(len(history) + 1):
                        before, after = history[:len(history) - many], history[len(history) - many:]
                        expected = ("form",)
                        if len(before) >= least:
                            ends = [done(book, side + after) for side in faulty_ends(fault, before)]
                            expected = ("kept",) if ends[0] == ends[1] else None
                        self.assertEqual(fault_run_fault(book, sender, fault, many, (before, after)), expected)
                        seen.add(expected)
        self.assertEqual(len(seen), 3)

    def test_long_lists(self):
        book = Book(1, [[("set", 0, [1, 9, 1])], [("set", 0, [0, 0, 0])]])
        before, after = [(0, [], 1)] * 10, [(0, [], 5)] * 200
        self.assertIsNone(fault_run_fault(book, free(book), "lost", 200, (before, after)))
        self.assertEqual(fault_run_fault(book, free(book), "lost", 200, (before, [*after[:-1], (1, [], 0)])), ("kept",))
        self.assertEqual(classes_of(book, after[:1]), [A])

    def test_no_fault_goes_ahead_of_no_many(self):
        book = shift_book()
        for fault in NO_FAULTS:
            for many in (0, *NO_MANY):
                with self.assertRaises(NoFault):
                    fault_run_fault(book, free(book), fault, many, None)
        for many in NO_MANY:
            for thing in (None, ([self.a], [])):
                with self.subTest(many=many), self.assertRaises(NoMany):
                    fault_run_fault(book, free(book), "lost", many, thing)

    def test_the_arguments_stay(self):
        book = shift_book()
        thing = ([(0, [], 1), (1, [], 2)], [(2, [], 3)])
        fault_run_fault(book, free(book), "exchanged", 1, thing)
        self.assertEqual(thing, ([(0, [], 1), (1, [], 2)], [(2, [], 3)]))


if __name__ == "__main__":
    unittest.main()
