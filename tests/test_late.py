"""Point 42: late joiners."""

import copy
import unittest

from pairtools import bases, classes_of, entry_table, next_table, tables_behind
from samples import lists_in
from sendertools import let_histories, random_case, value
from sharedboard.books import Book
from sharedboard.deeds import done
from sharedboard.errors import NoClaims, NoList, NoMany
from sharedboard.late import after, entries, last_claims, late_run, level, when_sure
from sharedboard.latejudges import late_fault
from sharedboard.senders import Sender, free
from sharedboard.spaces import Space, vanishing
from test_faults import NO_MANY, two_cells
from test_healing import healing_cases, shift_book

A, B, C = (0, 0), (1, 0), (2, 0)


def late_cases(many, cells=2):
    """Yield random books and senders, and pair claims of them."""
    for seed, (book, sender) in enumerate(healing_cases(many, cells)):
        source, _, _ = random_case(seed)
        width = 2 * book.cells() + 1
        claims = [
            [[source.choice([0, 0, 0, 0, 1, -1]) for _ in range(width)] for _ in range(source.choice([0, 1, 1, 2]))]
            for _ in range(sender.states())
        ]
        if seed % 2:
            claims = level(book, sender, list(range(source.randint(1, book.cells()))))
        yield book, sender, claims


def holds(claims, table):
    """Tell whether claims are 0 on a table of bases."""
    return not any(value(form, pair) for state, pairs in table.items() for form in claims[state] for pair in pairs)


def wrong_claims(width):
    """Return what are no pair claims of a sender of two states."""
    form = [0] * width
    return [
        None, 0, "", (), {}, True, [], [[]], [[], [], []], ([], []), [[], None], [None, []], [(), []], [[], [None]], [[form], [()]],
        [[tuple(form)], []], [[form[1:]], []], [[], [[*form, 0]]], [[[*form[1:], True]], []], [[[*form[1:], False]], []],
        [[[*form[1:], None]], []], [[form] * 8, []], [[], [form] * 7 + [[]]], [form, form],
    ]


class TablesTest(unittest.TestCase):
    def test_entries_written_out(self):
        book = two_cells()
        self.assertEqual(bases(entries(book, Sender(book, [[(A, 0)]]))),
                         {0: [[1, 0, 0, 0, 0], [0, 1, 1, 0, 0], [0, 0, 0, 1, 0], [0, 0, 0, 0, 1]]})
        sender = Sender(book, [[(B, 1)], [(B, 1)]])
        self.assertEqual(bases(entries(book, sender)),
                         {0: [[1, 0, 0, 0, 0], [0, 0, 0, 1, 0], [0, 0, 0, 0, 1]],
                          1: [[1, 0, 0, 0, 0], [0, 0, 1, 0, 0], [0, 0, 0, 1, 0], [0, 0, 0, 0, 1]]})

    def test_after_written_out(self):
        book = two_cells()
        sender = Sender(book, [[(B, 1)], [(B, 1)]])
        self.assertEqual(bases(after(book, sender, 0)), bases(entries(book, sender)))
        self.assertEqual(bases(after(book, sender, 1)), {1: [[1, 0, 0, 0, 0], [0, 0, 1, 0, 1], [0, 0, 0, 1, 0]]})
        self.assertEqual(bases(after(book, sender, 200)), {1: [[1, 0, 0, 0, 0], [0, 0, 1, 0, 1], [0, 0, 0, 1, 0]]})

    def test_a_table_that_becomes_smaller_for_long(self):
        # Three cells and two states: only every second deed moves the cells.
        book = Book(3, [shift_book().bodies()[0], []])
        sender = Sender(book, [[(A, 1)], [(B, 0)]])
        sizes = [sum(len(space) for space in after(book, sender, many).values()) for many in range(15)]
        self.assertEqual(sizes, [14, 13, 12, 11, 10, 9, 8, 8, 8, 8, 8, 8, 8, 8, 8])

    def test_random_senders(self):
        for seed in range(60):
            _, book, sender = random_case(seed, 2 if seed % 3 else 3)
            if sender is None:
                continue
            table = bases(entries(book, sender))
            self.assertEqual(table, entry_table(book, sender))
            for many, found in enumerate(tables_behind(book, sender, table, 4)):
                self.assertEqual(bases(after(book, sender, many)), found)

    def test_each_table_lies_in_the_one_before_and_stays_from_14_on(self):
        for seed in range(50):
            _, book, sender = random_case(seed)
            if sender is None:
                continue
            tables = [after(book, sender, many) for many in range(15)]
            for table, more in zip(tables[1:], tables):
                self.assertTrue(all(state in more and space.within(more[state]) for state, space in table.items()))
            for many in (15, 16, 200):
                self.assertEqual(after(book, sender, many), tables[14])
            self.assertEqual(next_table(book, sender, bases(tables[14])), bases(tables[14]))

    def test_boards_behind_short_histories(self):
        for seed in range(30):
            source, book, sender = random_case(seed)
            if sender is None:
                continue
            tables = [after(book, sender, many) for many in range(4)]
            for history, states in let_histories(book, sender, 3):
                for many in range(len(history) + 1):
                    board = tuple(source.randint(-9, 9) for _ in range(book.cells()))
                    deeds = history[len(history) - many:]
                    pair = [1, *done(book, history), *done(book, deeds, board=board)]
                    for state in states:
                        self.assertIn(pair, tables[many][state])

    def test_the_width(self):
        for cells in (1, 2, 3):
            book = Book(cells, [[]])
            self.assertEqual(entries(book, free(book))[0].width(), 2 * cells + 1)
            self.assertEqual(len(after(book, free(book), 5)[0]), cells + 1)

    def test_what_is_returned_is_new(self):
        book = two_cells()
        for find in (lambda: entries(book, free(book)), lambda: after(book, free(book), 9), lambda: last_claims(book, free(book))):
            first = find()
            kept = bases(first)
            first[0].basis().clear()
            first.clear()
            self.assertEqual(bases(find()), kept)

    def test_no_many(self):
        for many in NO_MANY:
            with self.subTest(many=many), self.assertRaises(NoMany):
                after(two_cells(), free(two_cells()), many)


class LevelTest(unittest.TestCase):
    def test_the_forms(self):
        book = shift_book()
        sender = Sender(book, [[(A, 1)], [(B, 0)]])
        forms = [[0, 1, 0, 0, -1, 0, 0], [0, 0, 1, 0, 0, -1, 0], [0, 0, 0, 1, 0, 0, -1]]
        self.assertEqual(level(book, sender, [0, 1, 2]), [forms, forms])
        self.assertEqual(level(book, sender, [0, 2]), [[forms[0], forms[2]]] * 2)
        self.assertEqual(level(book, sender, []), [[], []])
        self.assertEqual(level(book, free(book), [1]), [[forms[1]]])
        small = Book(1, [[]])
        self.assertEqual(level(small, free(small), [0]), [[[0, 1, -1]]])

    def test_the_lists_are_new(self):
        found = level(shift_book(), Sender(shift_book(), [[(A, 1)], [(B, 0)]]), [0, 1, 2])
        self.assertEqual(len({id(item) for item in lists_in(found)}), 9)

    def test_no_list(self):
        book = two_cells()
        for cells in (None, 0, "", "0", (), (0,), {}, {0: 1}, [2], [-1], [0, 2], [1, 0], [0, 0], [True], [0, True], [False], [None], [[0]], ["0"]):
            with self.subTest(cells=cells), self.assertRaises(NoList):
                level(book, free(book), cells)


class WhenSureTest(unittest.TestCase):
    def test_from_0(self):
        book = two_cells()
        for claims in ([[]], [[[0] * 5]], [[[0] * 5] * 7]):
            told = when_sure(book, free(book), claims)
            self.assertEqual(told[:2], ("from", 0))
            self.assertEqual([bases(table) for table in told[2]], [bases(entries(book, free(book)))])
        sender = Sender(book, [[(A, 0)]])
        self.assertEqual(when_sure(book, sender, [[[0, 3, -3, 0, 0]]])[:2], ("from", 0))
        self.assertEqual(when_sure(book, sender, [[[0, 0, 0, 1, -1]]])[0], "never")

    def test_from_more(self):
        book = shift_book()
        sender = Sender(book, [[(A, 0)]])
        for cells, k in (([], 0), ([0], 1), ([1], 2), ([0, 1], 2), ([2], 3), ([0, 1, 2], 3)):
            told = when_sure(book, sender, level(book, sender, cells))
            self.assertEqual(told[:2], ("from", k))
            self.assertEqual([bases(table) for table in told[2]], [bases(after(book, sender, many)) for many in range(k + 1)])
            self.assertEqual(len({id(table) for table in told[2]}), k + 1)

    def test_claims_about_states_that_do_not_come_any_more(self):
        book = two_cells()
        sender = Sender(book, [[(B, 1)], [(B, 1)]])
        self.assertEqual(when_sure(book, sender, [[[1, 0, 0, 0, 0]], []])[:2], ("from", 1))
        self.assertEqual(when_sure(book, sender, [[[1, 0, 0, 0, 0]], level(book, sender, [1])[0]])[:2], ("from", 1))
        self.assertEqual(when_sure(book, Sender(book, [[(B, 0)], [(B, 1)]]), [[], [[1, 0, 0, 0, 0]]])[:2], ("from", 0))

    def test_never(self):
        book = shift_book()
        told = when_sure(book, free(book), level(book, free(book), [0]))
        self.assertEqual((len(told), told[0]), (2, "never"))
        self.assertEqual(bases(told[1]), bases(after(book, free(book), 200)))

    def test_random_claims(self):
        seen = {}
        for book, sender, claims in late_cases(80):
            told = when_sure(book, sender, claims)
            tables = tables_behind(book, sender, bases(entries(book, sender)), 7)
            sure = [many for many, table in enumerate(tables) if holds(claims, table)]
            self.assertEqual(sure, list(range(sure[0], 8)) if sure else [])
            if sure:
                self.assertEqual(told[:2], ("from", sure[0]))
                self.assertEqual([bases(table) for table in told[2]], tables[:sure[0] + 1])
            else:
                self.assertEqual((told[0], bases(told[1])), ("never", tables[7]))
            k = sure[0] if sure else None
            seen[k] = seen.get(k, 0) + 1
        self.assertGreater(min(seen[0], seen[1], seen[None]), 5)

    def test_no_claims(self):
        book = two_cells()
        sender = Sender(book, [[(A, 0), (B, 1)], [(A, 1)]])
        for claims in wrong_claims(5):
            with self.subTest(claims=claims):
                with self.assertRaises(NoClaims):
                    when_sure(book, sender, claims)
                for many in (0, *NO_MANY):
                    with self.assertRaises(NoClaims):
                        late_run(book, sender, claims, many)

    def test_the_arguments_stay(self):
        book = two_cells()
        claims = [[[0, 1, 0, -1, 0], [0] * 5]]
        kept = copy.deepcopy(claims)
        when_sure(book, free(book), claims)
        late_run(book, free(book), claims, 3)
        self.assertEqual(claims, kept)


class LateRunTest(unittest.TestCase):
    def check(self, book, sender, claims, many):
        """Check a run by the words of point 42, and return it."""
        told = late_run(book, sender, claims, many)
        if told is None:
            return None
        before, board, deeds = told
        self.assertEqual((type(board), len(board), len(deeds)), (tuple, book.cells(), many))
        states = sender.behind(0, classes_of(book, before + deeds))
        self.assertTrue(states)
        if many < 20:
            pair = [1, *done(book, before + deeds), *done(book, deeds, board=board)]
            self.assertTrue(any(value(form, pair) for state in states for form in claims[state]))
        self.assertIsNone(late_fault(book, sender, claims, many, told))
        bits = [bits for _, bits, _ in before + deeds]
        self.assertEqual(len({id(found) for found in [before, deeds, *bits]}), len(bits) + 2)
        return told

    def test_written_out(self):
        book = shift_book()
        sender = Sender(book, [[(A, 0)]])
        claims = level(book, sender, [0, 1, 2])
        self.assertEqual([self.check(book, sender, claims, many) is None for many in (0, 1, 2, 3, 4, 200)],
                         [False, False, False, True, True, True])
        self.assertIsNone(late_run(book, sender, [[]], 0))
        before, board, deeds = self.check(book, sender, [[[1, 0, 0, 0, 0, 0, 0]]], 0)
        self.assertEqual((before, deeds), ([], []))

    def test_numbers_from_0_to_200(self):
        book = shift_book()
        sender = Sender(book, [[(A, 0), (B, 1)], [(B, 0), (C, 1)]])
        for claims in (level(book, sender, [0, 1, 2]), [[], [[0, 0, 0, 1, 0, 0, 0]]], [[[0, 0, 0, 0, 0, 0, 1]], []]):
            for many in (0, 1, 2, 3, 13, 14, 15, 60, 199, 200):
                self.assertIsNotNone(self.check(book, sender, claims, many))

    def test_numbers_that_become_long(self):
        book = Book(2, [[("set", 0, [0, 9, -7, 1]), ("set", 1, [3, 5, 8, 0])], [("set", 0, [1, -9, 9, 9])]])
        for claims in (level(book, free(book), [0]), [[[5, 1, 0, -3, 0]]]):
            before, board, deeds = self.check(book, free(book), claims, 200)
            pair = [1, *done(book, before + deeds), *done(book, deeds, board=board)]
            self.assertNotEqual(value(claims[0][0], pair), 0)

    def test_random_claims(self):
        seen = {True: 0, False: 0}
        for book, sender, claims in late_cases(90, 3):
            told = when_sure(book, sender, claims)
            for many in (0, 1, 2, 5, 40):
                found = self.check(book, sender, claims, many)
                self.assertEqual(found is None, told[0] == "from" and told[1] <= many)
                seen[found is None] += 1
        self.assertGreater(min(seen.values()), 80)

    def test_no_many(self):
        book = two_cells()
        for many in NO_MANY:
            with self.subTest(many=many), self.assertRaises(NoMany):
                late_run(book, free(book), [[]], many)


class LastClaimsTest(unittest.TestCase):
    def test_written_out(self):
        book = two_cells()
        sender = Sender(book, [[(B, 1)], [(B, 1)]])
        found = last_claims(book, sender)
        self.assertEqual(bases(found), {
            0: [[int(i == j) for j in range(5)] for i in range(5)], 1: [[0, 1, 0, 0, 0], [0, 0, 1, 0, -1]],
        })

    def test_all_states(self):
        for seed in range(60):
            _, book, sender = random_case(seed)
            if sender is None:
                continue
            found, last = last_claims(book, sender), after(book, sender, 14)
            width = 2 * book.cells() + 1
            self.assertEqual(sorted(found), list(range(sender.states())))
            for state, space in found.items():
                self.assertEqual(space.width(), width)
                if state in last:
                    self.assertEqual(space, vanishing(last[state]))
                    self.assertTrue(all(value(form, pair) == 0 for form in space.basis() for pair in last[state].basis()))
                    self.assertEqual(len(space) + len(last[state]), width)
                else:
                    self.assertEqual(space, Space(width, [[int(i == j) for j in range(width)] for i in range(width)]))
            claims = [[form for form in found[state].basis()][:7] for state in range(sender.states())]
            self.assertEqual(when_sure(book, sender, claims)[0], "from")


if __name__ == "__main__":
    unittest.main()
