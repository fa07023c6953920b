"""Point 40: from when on replicas are level again."""

import itertools
import unittest

from pairtools import (
    all_level, bases, classes_of, faulty_ends, faulty_table, pair_of, spanning_faulty, spans, tables_behind,
)
from samples import lists_in
from sendertools import random_case, running_classes
from sharedboard.books import Book
from sharedboard.deeds import done
from sharedboard.errors import NoFault, NoMany
from sharedboard.faultjudges import fault_run_fault, healed_fault
from sharedboard.faults import fault_after, fault_entries, fault_run, healed, healing
from sharedboard.senders import Sender, free
from test_faults import FAULTS, NO_FAULTS, NO_MANY

A, B, C = (0, 0), (1, 0), (2, 0)


def shift_book():
    """Return a book in which A moves cell 0 to 1, cell 1 to 2 and sets cell 0 to n; B and C set cells 1 and 0 to 0."""
    return Book(3, [
        [("set", 2, [0, 0, 1, 0, 0]), ("set", 1, [0, 1, 0, 0, 0]), ("set", 0, [0, 0, 0, 0, 1])],
        [("set", 1, [0, 0, 0, 0, 0])],
        [("set", 0, [0, 0, 0, 0, 0])],
    ])


def healing_cases(many, cells=2):
    """Yield random books and senders; in half of them each procedure forgets a cell at its end."""
    for seed in range(many):
        source, book, sender = random_case(seed, cells)
        if sender is None:
            continue
        if seed % 2:
            bodies = book.bodies()
            for body in bodies:
                if len(body) < 8 and not any(statement[0] in ("end", "either", "call", "again") for statement in body):
                    body.append(("set", source.randrange(book.cells()), [source.randint(0, 2), *[0] * book.cells(), 0]))
            try:
                book = Book(book.cells(), bodies)
            except ValueError:
                continue
            sender = Sender(book, [sender.ways(state) for state in range(sender.states())])
        yield book, sender


class HealedTest(unittest.TestCase):
    def check(self, book, sender, fault, k):
        """Check that both are level from k deeds on, and return what healed tells."""
        told = healed(book, sender, fault)
        if k is None:
            self.assertEqual(told, ("never",))
            return told
        self.assertEqual(told[:2], ("from", k))
        self.assertEqual(len(told[2]), k + 1)
        for many, table in enumerate(told[2]):
            self.assertEqual(table, fault_after(book, sender, fault, many))
        self.assertIsNone(healed_fault(book, sender, fault, told[2]))
        return told

    def test_from_0(self):
        book = shift_book()
        self.check(book, Sender(book, [[(B, 0)]]), "lost", 0)
        self.check(book, Sender(book, [[(C, 0)]]), "exchanged", 0)
        self.check(book, Sender(book, [[(B, 0), (C, 0)]]), "exchanged", 0)
        self.check(Book(1, [[("set", 0, [0, 1, 1])]]), free(Book(1, [[("set", 0, [0, 1, 1])]])), "exchanged", 0)

    def test_from_more(self):
        book = shift_book()
        self.check(book, Sender(book, [[(A, 0)]]), "lost", 3)
        # Exchanging deeds of A concerns cells 0 and 1 only: the older one has left cell 0 again.
        self.check(book, Sender(book, [[(A, 0)]]), "exchanged", 3)
        self.check(book, Sender(book, [[(A, 1)], [(B, 0)]]), "lost", 3)
        put = Book(1, [[("set", 0, [0, 0, 1])]])
        self.check(put, free(put), "lost", 1)
        self.check(put, free(put), "exchanged", 1)

    def test_never(self):
        book = Book(1, [[("set", 0, [0, 1, 1])]])
        self.check(book, free(book), "lost", None)
        self.check(shift_book(), free(shift_book()), "lost", None)

    def test_as_many_as_there_can_be(self):
        # Three cells and two states: only every second deed moves the cells.
        book = shift_book()
        still = Book(3, [book.bodies()[0], []])
        sender = Sender(still, [[(A, 1)], [((1, 0), 0)]])
        told = self.check(still, sender, "lost", 6)
        self.assertEqual(sorted(told[2][0]), [0, 1])

    def test_random_senders(self):
        seen = {}
        for book, sender in healing_cases(80):
            for fault in FAULTS:
                most = book.cells() * sender.states()
                tables = tables_behind(book, sender, bases(fault_entries(book, sender, fault)), most)
                level = [k for k, table in enumerate(tables) if all_level(book.cells(), table)]
                k = level[0] if level else None
                self.assertEqual(level, list(range(most + 1))[k:] if level else [])
                self.check(book, sender, fault, k)
                seen[k] = seen.get(k, 0) + 1
        self.assertGreater(min(seen[0], seen[1], seen[None]), 5)

    def test_the_tables_are_new(self):
        book = shift_book()
        first = healed(book, Sender(book, [[(A, 0)]]), "lost")[2]
        kept = [bases(table) for table in first]
        self.assertEqual(len({id(table) for table in first}), 4)
        for table in first:
            table.clear()
        first.clear()
        self.assertEqual([bases(table) for table in healed(book, Sender(book, [[(A, 0)]]), "lost")[2]], kept)

    def test_no_fault(self):
        for fault in NO_FAULTS:
            for ask in (healed, healing):
                with self.subTest(fault=fault), self.assertRaises(NoFault):
                    ask(shift_book(), free(shift_book()), fault)


class RunTest(unittest.TestCase):
    def check(self, book, sender, fault, many):
        """Check a run by the words of point 40, and return it."""
        told = fault_run(book, sender, fault, many)
        if told is None:
            return None
        before, after = told
        self.assertGreaterEqual(len(before), 1 if fault == "lost" else 2)
        self.assertEqual(len(after), many)
        self.assertTrue(sender.behind(0, classes_of(book, before + after)))
        one, other = faulty_ends(fault, before)
        if many < 20:
            self.assertNotEqual(done(book, one + after), done(book, other + after))
        self.assertIsNone(fault_run_fault(book, sender, fault, many, told))
        bits = [bits for _, bits, _ in before + after]
        self.assertEqual(len({id(found) for found in [before, after, *bits]}), len(bits) + 2)
        return told

    def test_written_out(self):
        book = shift_book()
        sender = Sender(book, [[(A, 0)]])
        for fault in FAULTS:
            self.assertEqual([self.check(book, sender, fault, many) is None for many in (0, 1, 2, 3, 4, 200)],
                             [False, False, False, True, True, True])

    def test_numbers_from_0_to_200(self):
        book = shift_book()
        sender = Sender(book, [[(A, 0), (B, 1)], [(B, 0), (C, 1)]])
        for fault in FAULTS:
            for many in (0, 1, 2, 3, 5, 17, 50, 120, 199, 200):
                self.assertIsNotNone(self.check(book, sender, fault, many))

    def test_numbers_that_become_long(self):
        book = Book(2, [[("set", 0, [0, 9, -7, 1]), ("set", 1, [3, 5, 8, 0])], [("set", 0, [1, -9, 9, 9])]])
        for fault in FAULTS:
            before, after = self.check(book, free(book), fault, 200)
            self.assertNotEqual(*[done(book, side + after) for side in faulty_ends(fault, before)])

    def test_random_senders(self):
        seen = {True: 0, False: 0}
        for book, sender in healing_cases(90, 3):
            for fault in FAULTS:
                told = healed(book, sender, fault)
                for many in (0, 1, 2, 4, 40):
                    found = self.check(book, sender, fault, many)
                    self.assertEqual(found is None, told[0] == "from" and told[1] <= many)
                    seen[found is None] += 1
        self.assertGreater(min(seen.values()), 80)

    def test_no_fault_goes_ahead_of_no_many(self):
        book = shift_book()
        for fault in NO_FAULTS:
            for many in (0, *NO_MANY):
                with self.assertRaises(NoFault):
                    fault_run(book, free(book), fault, many)
        for many in NO_MANY:
            with self.subTest(many=many), self.assertRaises(NoMany):
                fault_run(book, free(book), "lost", many)


class HealingTest(unittest.TestCase):
    def test_written_out(self):
        book = shift_book()
        self.assertEqual(healing(book, Sender(book, [[(A, 0)]]), "lost"), [((A,), 3)])
        self.assertEqual(healing(book, Sender(book, [[(A, 0)]]), "exchanged"), [((A, A), 3)])
        # What B and C forget is not forgotten if they are lost; a pair of B and C is done alike in both orders.
        self.assertEqual(healing(book, Sender(book, [[(A, 0), (B, 0)]]), "lost"), [((A,), None), ((B,), None)])
        self.assertEqual(healing(book, Sender(book, [[(A, 0), (B, 0)]]), "exchanged"),
                         [((A, A), None), ((A, B), None), ((B, A), None), ((B, B), 0)])
        sender = Sender(book, [[(A, 1)], [(B, 1)]])
        self.assertEqual(healing(book, sender, "lost"), [((A,), None), ((B,), 0)])
        self.assertEqual(healing(book, sender, "exchanged"), [((A, B), 0), ((B, B), 0)])

    def test_only_classes_that_end_faulty_histories(self):
        book = shift_book()
        self.assertEqual(healing(book, Sender(book, [[(B, 1)], [(C, 1)]]), "lost"), [((B,), 0), ((C,), 0)])
        self.assertEqual(healing(book, Sender(book, [[(B, 1)], [(C, 1)]]), "exchanged"), [((B, C), 0), ((C, C), 0)])
        # State 1 does not come.
        self.assertEqual(healing(book, Sender(book, [[(B, 0)], [(A, 1)]]), "exchanged"), [((B, B), 0)])

    def test_whatever_comes_ahead(self):
        # A lost deed of B is level at the start, but not behind a deed of A.
        book = shift_book()
        sender = Sender(book, [[(A, 1)], [(A, 0), (B, 0)]])
        self.assertEqual(dict(healing(book, sender, "lost"))[(B,)], 3)

    def test_against_healed_and_the_pairs_of_the_classes(self):
        seen = 0
        for book, sender in healing_cases(45):
            for fault in FAULTS:
                told = healing(book, sender, fault)
                rows = spanning_faulty(book, sender, fault)
                many = 1 if fault == "lost" else 2
                ends = {}
                for before, state in rows:
                    ends.setdefault(tuple(classes_of(book, before[-many:])), []).append((pair_of(book, fault, before), state))
                self.assertEqual([classes for classes, _ in told], sorted(ends))
                self.check_numbers(book, sender, told, ends)
                numbers = [k for _, k in told]
                whole = healed(book, sender, fault)
                self.assertEqual(whole[:2], ("never",) if None in numbers else ("from", max(numbers)))
                seen += len(told)
        self.assertGreater(seen, 90)

    def check_numbers(self, book, sender, told, ends):
        most = book.cells() * sender.states()
        for classes, k in told:
            tables = tables_behind(book, sender, spans(ends[classes]), most)
            level = [many for many, table in enumerate(tables) if all_level(book.cells(), table)]
            self.assertEqual(k, level[0] if level else None)

    def test_what_is_returned_is_new(self):
        book = shift_book()
        first = healing(book, free(book), "exchanged")
        self.assertEqual(len(first), 9)
        self.assertEqual(len(lists_in(first)), 1)
        first.clear()
        pairs = list(itertools.product(running_classes(book), repeat=2))
        self.assertEqual([classes for classes, _ in healing(book, free(book), "exchanged")], pairs)

    def test_the_faulty_table_is_that_of_all_classes(self):
        book = shift_book()
        self.assertEqual(bases(fault_entries(book, free(book), "exchanged")), faulty_table(book, free(book), "exchanged"))


if __name__ == "__main__":
    unittest.main()
