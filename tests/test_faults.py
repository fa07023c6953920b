"""Point 39: faulty pairs, and the tables behind further deeds."""

import random
import unittest
import unittest.mock

from pairtools import bases, deed_matrices, faulty_ends, faulty_table, next_table, pair_of, tables_behind
from sendertools import let_histories, random_case
from sharedboard.books import Book
from sharedboard.deeds import done
from sharedboard.errors import NoFault, NoMany, NoSender
from sharedboard.faults import fault_after, fault_entries
from sharedboard.reach import reach
from sharedboard.senders import Sender, free

A, B, C = (0, 0), (1, 0), (2, 0)
FAULTS = ("lost", "exchanged")
NO_FAULTS = (None, True, 0, "", "Lost", "lost ", "exchange", ["lost"], ("lost",), {"lost": "lost"}, b"lost", [], {})
NO_MANY = (True, False, -1, 201, 10 ** 40, None, "0", [0], (0,), {})


def two_cells():
    """Return a book in which A adds n to both cells and B sets cell 1 to n."""
    return Book(2, [[("set", 0, [0, 1, 0, 1]), ("set", 1, [0, 0, 1, 1])], [("set", 1, [0, 0, 0, 1])]])


def grown_book():
    """Return a book in which A sets cell 0 to 1, and B makes it twice as much."""
    return Book(1, [[("set", 0, [1, 0, 0])], [("set", 0, [0, 2, 0])]])


def long_run_book(source):
    """Return a book of two cells whose deeds of B have runs of 77 commands; some deeds of A and C forget cells."""
    def command(size=9):
        return ("set", source.randrange(2), [source.randint(-size, size) for _ in range(3)] + [0])

    calls = [("call", 2, [0, 0, 0, 0], [[], []])] * 7
    several = [command() for _ in range(7)]
    return Book(2, [[command(2)], calls, [*several, ("keep", [], [command() for _ in range(source.choice([1, 4]))])]])


class EntriesTest(unittest.TestCase):
    def test_lost(self):
        book = two_cells()
        self.assertEqual(bases(fault_entries(book, Sender(book, [[(A, 0)]]), "lost")),
                         {0: [[1, 0, 0, 0, 0], [0, 1, 1, 0, 0], [0, 0, 0, 1, 1]]})
        self.assertEqual(bases(fault_entries(book, Sender(book, [[(B, 0)]]), "lost")),
                         {0: [[1, 0, 0, 0, 0], [0, 0, 1, 0, 0], [0, 0, 0, 0, 1]]})

    def test_exchanged(self):
        book = two_cells()
        # A adds, in whatever order; of two B the last one counts.
        self.assertEqual(bases(fault_entries(book, Sender(book, [[(A, 0)]]), "exchanged")),
                         {0: [[1, 0, 0, 0, 0], [0, 1, 1, 1, 1]]})
        self.assertEqual(bases(fault_entries(book, Sender(book, [[(B, 0)]]), "exchanged")),
                         {0: [[1, 0, 0, 0, 0], [0, 0, 1, 0, 0], [0, 0, 0, 0, 1]]})

    def test_the_keys_are_the_states_of_faulty_pairs(self):
        book = two_cells()
        sender = Sender(book, [[(A, 1)], [(B, 1)]])
        self.assertEqual(sorted(fault_entries(book, sender, "lost")), [1])
        self.assertEqual(sorted(fault_entries(book, sender, "exchanged")), [1])
        self.assertEqual(sorted(fault_entries(book, Sender(book, [[(A, 1)], [(B, 0)]]), "exchanged")), [0, 1])
        self.assertEqual(sorted(fault_entries(book, Sender(book, [[(A, 0)], [(B, 1)]]), "lost")), [0])

    def test_the_other_does_exchanged_deeds_whether_that_is_let_or_not(self):
        book = two_cells()
        sender = Sender(book, [[(A, 1)], [(B, 1)]])
        self.assertEqual(sender.behind(0, [B, A]), [])
        # A then B: cell 1 is the n of B; the other way round it is the sum of both.
        self.assertIn([1, 5, 7, 5, 12], fault_entries(book, sender, "exchanged")[1])
        self.assertNotIn([1, 5, 7, 6, 7], fault_entries(book, sender, "exchanged")[1])

    def test_a_history_has_two_deeds_at_least_to_be_exchanged(self):
        # The way from state 0 to state 1 comes once and first: behind one deed nothing can be exchanged.
        book = grown_book()
        sender = Sender(book, [[(A, 1)], [(B, 1)]])
        self.assertEqual(bases(fault_entries(book, sender, "lost")), {1: [[1, 0, 0], [0, 1, 0], [0, 0, 1]]})
        self.assertIn([1, 1, 0], fault_entries(book, sender, "lost")[1])
        self.assertNotIn([1, 1, 1], fault_entries(book, Sender(book, [[(B, 0)]]), "exchanged")[0])
        self.assertEqual(bases(fault_entries(book, Sender(book, [[(B, 0)]]), "exchanged")), {0: [[1, 0, 0]]})

    def test_each_sender_lets_a_second_deed(self):
        # A sender that lets no second deed would need a state without ways, and there is none.
        book = grown_book()
        for ways in ([[(A, 1)], []], [[]]):
            with self.assertRaises(NoSender):
                Sender(book, ways)
        for sender in (free(book), Sender(book, [[(A, 1)], [(A, 1)]])):
            self.assertTrue(fault_entries(book, sender, "exchanged"))

    def test_several_ways_of_one_class(self):
        book = two_cells()
        sender = Sender(book, [[(A, 0), (A, 1)], [(B, 1)]])
        for fault in FAULTS:
            self.assertEqual(bases(fault_entries(book, sender, fault)), faulty_table(book, sender, fault))
        self.assertEqual(sorted(fault_entries(book, sender, "lost")), [0, 1])

    def test_the_width(self):
        for cells in (1, 2, 3):
            book = Book(cells, [[]])
            for fault in FAULTS:
                found = fault_entries(book, free(book), fault)
                self.assertEqual(found[0].width(), 2 * cells + 1)
                self.assertEqual(found[0].basis(), [[1] + [0] * (2 * cells)])

    def test_random_senders(self):
        asked = 0
        for seed in range(60):
            _, book, sender = random_case(seed, 2 if seed % 3 else 3)
            if sender is None:
                continue
            for fault in FAULTS:
                if seed % 3 == 0 and fault == "exchanged" and seed > 20:
                    continue
                self.assertEqual(bases(fault_entries(book, sender, fault)), faulty_table(book, sender, fault))
                asked += 1
        self.assertGreater(asked, 60)

    def test_boards_behind_short_faulty_histories(self):
        for seed in range(40):
            _, book, sender = random_case(seed)
            if sender is None:
                continue
            for fault, least in (("lost", 1), ("exchanged", 2)):
                found = fault_entries(book, sender, fault)
                for history, states in let_histories(book, sender, 3 if seed < 15 else 2):
                    if len(history) < least:
                        continue
                    for state in states:
                        self.assertIn(pair_of(book, fault, history), found[state])

    def test_the_one_has_done_a_let_history(self):
        for seed in range(40):
            _, book, sender = random_case(seed)
            if sender is None:
                continue
            width = book.cells() + 1
            boards = reach(book, sender)
            for state, space in fault_entries(book, sender, "lost").items():
                self.assertTrue(all(pair[:width] in boards[state] for pair in space.basis()))


class AfterTest(unittest.TestCase):
    def test_written_out(self):
        # A sets both cells to 1; B makes cell 0 twice and cell 1 three times as much.
        book = Book(2, [[("set", 0, [1, 0, 0, 0]), ("set", 1, [1, 0, 0, 0])], [("set", 0, [0, 2, 0, 0]), ("set", 1, [0, 0, 3, 0])]])
        sender = Sender(book, [[(A, 1)], [(B, 1)]])
        for many in (0, 1, 2, 7, 200):
            found = fault_after(book, sender, "exchanged", many)
            self.assertEqual(sorted(found), [1])
            # One pair is (2, 3) and (1, 1), all the others are level.
            self.assertEqual(len(found[1]), 4)
            for pair in ([1, 2 ** (many + 1), 3 ** (many + 1), 2 ** many, 3 ** many], [1, 5, 7, 5, 7]):
                self.assertIn(pair, found[1])

    def test_none_are_the_entries(self):
        for seed in range(40):
            _, book, sender = random_case(seed)
            if sender is not None:
                for fault in FAULTS:
                    self.assertEqual(fault_after(book, sender, fault, 0), fault_entries(book, sender, fault))

    def test_random_senders(self):
        for seed in range(45):
            _, book, sender = random_case(seed, 2)
            if sender is None:
                continue
            for fault in FAULTS:
                tables = tables_behind(book, sender, bases(fault_entries(book, sender, fault)), 5)
                for many in (1, 2, 5):
                    self.assertEqual(bases(fault_after(book, sender, fault, many)), tables[many])

    def test_boards_behind_short_histories(self):
        for seed in range(25):
            _, book, sender = random_case(seed)
            if sender is None:
                continue
            for fault, least in (("lost", 1), ("exchanged", 2)):
                tables = [fault_after(book, sender, fault, many) for many in (0, 1, 2)]
                for history, states in let_histories(book, sender, 3):
                    for many in range(min(3, len(history) - least + 1)):
                        before, after = history[:len(history) - many], history[len(history) - many:]
                        pair = [1]
                        for side in faulty_ends(fault, before):
                            pair += done(book, side + after)
                        for state in states:
                            self.assertIn(pair, tables[many][state])

    def test_many_from_0_to_200(self):
        book = two_cells()
        sender = Sender(book, [[(A, 1), (B, 1)], [(B, 0)]])
        for fault in FAULTS:
            table, matrices = bases(fault_entries(book, sender, fault)), deed_matrices(book)
            for many in range(201):
                if many % 40 in (0, 1, 39):
                    self.assertEqual(bases(fault_after(book, sender, fault, many)), table)
                table = next_table(book, sender, table, matrices)

    def test_numbers_that_become_long(self):
        longest = 0
        for seed in (1, 3, 7):
            book = long_run_book(random.Random(seed))
            for ways in ([[(A, 1)], [(B, 1)]], [[(A, 1), (C, 0)], [(B, 0), (C, 1)]], [[(A, 1)], [(C, 0)]]):
                sender = Sender(book, ways)
                tables = tables_behind(book, sender, bases(fault_entries(book, sender, "lost")), 12)
                for many in (3, 8, 12):
                    self.assertEqual(bases(fault_after(book, sender, "lost", many)), tables[many])
                longest = max([longest, *[abs(number) for pairs in tables[12].values() for pair in pairs for number in pair]])
        self.assertGreater(longest, 2 ** 2000)

    def test_all_numbers_taken_for_long_ones(self):
        # The way that goes on without canonical bases has to lead to the same tables.
        with unittest.mock.patch("sharedboard.pairs.LONG_BITS", 0):
            for seed in range(36):
                _, book, sender = random_case(seed, 2)
                if sender is not None:
                    for fault in FAULTS:
                        tables = tables_behind(book, sender, bases(fault_entries(book, sender, fault)), 6)
                        for many in (1, 2, 3, 6):
                            self.assertEqual(bases(fault_after(book, sender, fault, many)), tables[many])

    def test_spaces_of_long_numbers_that_stay(self):
        # A deed of A leaves a great multiple of cell 0 in cell 1, and B leaves all as it is.
        calls = [("call", 2, [0] * 4, [[], []])]
        book = Book(2, [
            [("set", 0, [1, 0, 0, 0]), ("set", 1, [0, 1, 0, 0]), *calls * 6], [],
            [*[("set", 1, [0, 0, 9, 0])] * 7, ("keep", [], [("set", 1, [0, 0, 9, 0])] * 4)],
        ])
        for ways in ([[(A, 1)], [(B, 1)]], [[(A, 1)], [(B, 1), (C, 1)]], [[(A, 1)], [(C, 1)]]):
            sender = Sender(book, ways)
            tables = tables_behind(book, sender, faulty_table(book, sender, "lost"), 9)
            for many in (1, 9):
                self.assertEqual(bases(fault_after(book, sender, "lost", many)), tables[many])
        self.assertEqual(fault_after(book, Sender(book, [[(A, 1)], [(B, 1)]]), "lost", 200)[1].basis(),
                         [[1, 1, 9 ** 66, 0, 0], [0, 0, 0, 1, 9 ** 66]])

    def test_states_that_come_by_turns(self):
        book = grown_book()
        sender = Sender(book, [[(A, 1)], [(B, 0)]])
        for many in (0, 1, 2, 3, 199, 200):
            tables = tables_behind(book, sender, faulty_table(book, sender, "exchanged"), many)
            self.assertEqual(bases(fault_after(book, sender, "exchanged", many)), tables[-1])

    def test_what_is_returned_is_new(self):
        book = two_cells()
        for find in (lambda: fault_entries(book, free(book), "lost"), lambda: fault_after(book, free(book), "lost", 3)):
            first = find()
            kept = bases(first)
            first[0].basis().clear()
            first.clear()
            self.assertEqual(bases(find()), kept)


class ErrorTest(unittest.TestCase):
    def test_no_fault(self):
        book = two_cells()
        for fault in NO_FAULTS:
            with self.subTest(fault=fault):
                with self.assertRaises(NoFault):
                    fault_entries(book, free(book), fault)
                for many in (0, *NO_MANY):
                    with self.assertRaises(NoFault):
                        fault_after(book, free(book), fault, many)

    def test_no_many(self):
        book = two_cells()
        for many in NO_MANY:
            with self.subTest(many=many), self.assertRaises(NoMany):
                fault_after(book, free(book), "lost", many)
        self.assertEqual(sorted(fault_after(book, free(book), "exchanged", 200)), [0])


if __name__ == "__main__":
    unittest.main()
