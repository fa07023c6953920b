"""Points 32 and 33: reach and settle."""

import copy
import unittest

from samples import lists_in, spoil
from sendertools import layers, let_histories, random_case, reach_by_layers, value
from sharedboard.books import Book
from sharedboard.deeds import deed_class, done
from sharedboard.errors import NoClaims
from sharedboard.reach import history_fault, reach, settle, sure_fault
from sharedboard.senders import Sender, free

A, B = (0, 0), (1, 0)


def two_cells():
    """Return a book in which A adds n to both cells and B sets cell 1 to n."""
    return Book(2, [[("set", 0, [0, 1, 0, 1]), ("set", 1, [0, 0, 1, 1])], [("set", 1, [0, 0, 0, 1])]])


def bases(found):
    return {state: space.basis() for state, space in found.items()}


class ReachTest(unittest.TestCase):
    def test_written_out(self):
        book = two_cells()
        self.assertEqual(bases(reach(book, Sender(book, [[(A, 0)]]))), {0: [[1, 0, 0], [0, 1, 1]]})
        self.assertEqual(bases(reach(book, free(book))), {0: [[1, 0, 0], [0, 1, 0], [0, 0, 1]]})
        sender = Sender(book, [[(A, 0), (B, 1)], [(A, 1)]])
        self.assertEqual(bases(reach(book, sender)), {0: [[1, 0, 0], [0, 1, 1]], 1: [[1, 0, 0], [0, 1, 0], [0, 0, 1]]})

    def test_the_keys_are_the_states_that_come(self):
        book = two_cells()
        self.assertEqual(sorted(reach(book, Sender(book, [[(A, 0)], [(A, 0)]]))), [0])
        self.assertEqual(sorted(reach(book, Sender(book, [[(A, 1)], [(B, 0)]]))), [0, 1])
        # State 0 does not come again, but the empty history ends there.
        found = reach(book, Sender(book, [[(B, 1)], [(B, 1)]]))
        self.assertEqual(bases(found), {0: [[1, 0, 0]], 1: [[1, 0, 0], [0, 0, 1]]})

    def test_the_width(self):
        for cells in (1, 2, 3):
            book = Book(cells, [[]])
            found = reach(book, free(book))
            self.assertEqual(found[0].width(), cells + 1)
            self.assertEqual(found[0].basis(), [[1] + [0] * cells])

    def test_random_senders(self):
        for seed in range(150):
            _, book, sender = random_case(seed)
            if sender is None:
                continue
            found = reach(book, sender)
            self.assertEqual(bases(found), reach_by_layers(book, sender))
            self.assertIsNone(sure_fault(book, sender, [[]] * sender.states(), found))

    def test_boards_behind_short_let_histories(self):
        for seed in range(40):
            _, book, sender = random_case(seed)
            if sender is None:
                continue
            found = reach(book, sender)
            for history, states in let_histories(book, sender, 2):
                for state in states:
                    self.assertIn([1, *done(book, history)], found[state])

    def test_what_is_returned_is_new(self):
        book = two_cells()
        first = reach(book, free(book))
        kept = bases(first)
        first[0].basis().clear()
        first.clear()
        self.assertEqual(bases(reach(book, free(book))), kept)


class SettleTest(unittest.TestCase):
    def test_sure_claims(self):
        book = two_cells()
        sender = Sender(book, [[(A, 0), (B, 1)], [(A, 1)]])
        for claims in ([[], []], [[[0, 1, -1]], []], [[[0, 1, -1], [0, 0, 0], [0, -2, 2], [0, 10 ** 50, -10 ** 50]], [[0, 0, 0]]]):
            word, found = settle(book, sender, claims)
            self.assertEqual(word, "sure")
            self.assertEqual(bases(found), bases(reach(book, sender)))
            self.assertIsNone(sure_fault(book, sender, claims, found))

    def test_claims_about_a_state_that_does_not_come(self):
        book = two_cells()
        sender = Sender(book, [[(A, 0)], [(A, 0)]])
        self.assertEqual(settle(book, sender, [[[0, 1, -1]], [[1, 0, 0]]])[0], "sure")

    def test_claims_that_the_start_breaks(self):
        book = two_cells()
        for claims in ([[[1, 0, 0]]], [[[0, 1, -1], [5, 0, 0]]], [[[0, 1, 0], [1, 0, 0]]]):
            self.assertEqual(settle(book, free(book), claims), ("history", []))

    def test_claims_that_a_history_breaks(self):
        book = two_cells()
        sender = Sender(book, [[(A, 0), (B, 1)], [(A, 1)]])
        for claims, many in (([[[0, 1, 0]], []], 1), ([[], [[0, 0, 1]]], 1), ([[], [[0, 1, 0]]], 2), ([[], [[0, 1, -1]]], 1)):
            word, history = settle(book, sender, claims)
            self.assertEqual(word, "history")
            self.assertEqual(len(history), many)
            self.assertIsNone(history_fault(book, sender, claims, history))

    def test_a_long_way_to_a_broken_claim(self):
        # Each deed moves a 1 one cell further.
        step = ("set", 2, [0, 0, 1, 0, 0])
        book = Book(3, [[step, ("set", 1, [0, 1, 0, 0, 0]), ("set", 0, [1, 0, 0, 0, 0])]])
        for cell, many in ((0, 1), (1, 2), (2, 3)):
            form = [0] * 4
            form[cell + 1] = 1
            word, history = settle(book, free(book), [[form]])
            self.assertEqual((word, len(history)), ("history", many))
            self.assertIsNone(history_fault(book, free(book), [[form]], history))

    def test_random_claims_and_the_least_number_of_deeds(self):
        counts = {}
        for seed in range(300):
            source, book, sender = random_case(seed)
            if sender is None:
                continue
            width = book.cells() + 1
            claims = [
                [[source.choice([0, 0, 0, 1, -1, 2]) for _ in range(width)] for _ in range(source.choice([0, 0, 1, 1, 2]))]
                for _ in range(sender.states())
            ]
            for forms in claims:
                for form in forms:
                    form[0] = 0 if source.random() < 0.8 else form[0]
            least = None
            for many, layer in enumerate(layers(book, sender, 9)):
                broken = [1 for state, vectors in layer.items() for form in claims[state] for v in vectors if value(form, v)]
                if broken:
                    least = many
                    break
            word, found = settle(book, sender, claims)
            counts[word, least] = counts.get((word, least), 0) + 1
            if least is None:
                self.assertEqual(word, "sure")
                self.assertIsNone(sure_fault(book, sender, claims, found))
                self.assertEqual(bases(found), reach_by_layers(book, sender))
            else:
                self.assertEqual((word, len(found)), ("history", least))
                self.assertIsNone(history_fault(book, sender, claims, found))
                states = sender.behind(0, [deed_class(book, deed) for deed in found])
                vector = [1, *done(book, found)]
                self.assertTrue([1 for state in states for form in claims[state] if value(form, vector)])
        self.assertGreater(len(counts), 3)

    def test_no_shorter_history_by_trying(self):
        for seed in range(60):
            source, book, sender = random_case(seed)
            if sender is None:
                continue
            width = book.cells() + 1
            claims = [[[0] + [source.choice([0, 1, -1]) for _ in range(width - 1)]] for _ in range(sender.states())]
            word, found = settle(book, sender, claims)
            for history, states in let_histories(book, sender, 2):
                if word == "sure" or len(history) < len(found):
                    vector = [1, *done(book, history)]
                    for state in states:
                        for form in claims[state]:
                            self.assertEqual(value(form, vector), 0)

    def test_what_is_returned_is_new(self):
        book = Book(1, [[("either", [("set", 0, [1, 1, 0])], [])]])
        sender = Sender(book, [[(A, 1)], [(A, 0)]])
        claims = [[[0, 1]], []]
        first = settle(book, sender, claims)
        self.assertEqual(first[0], "history")
        kept = copy.deepcopy(first)
        lists = lists_in(first)
        self.assertEqual(len({id(one) for one in lists}), len(lists))
        spoil(first)
        self.assertEqual(settle(book, sender, claims), kept)
        self.assertEqual(claims, [[[0, 1]], []])


NO_FORMS = [None, (), 0, "", {}, [None], [()], [[0]], [[0, 0]], [[0, 0, 0, 0]], [[0, 0, True]], [[False, 0, 0]], [[0, None, 0]],
            [[0, "0", 0]], [(0, 0, 0)], [[0, 0, 0]] * 5, [[0, 0, 0], None], ["000"], True]


class NoClaimsTest(unittest.TestCase):
    def test_no_claims(self):
        book = two_cells()
        two = Sender(book, [[(A, 0), (B, 1)], [(A, 1)]])
        cases = [(two, claims) for claims in (None, (), ([], []), [], [[]], [[], [], []], 0, "", {}, {0: [], 1: []}, True)]
        cases += [(two, [forms, []]) for forms in NO_FORMS] + [(two, [[], forms]) for forms in NO_FORMS]
        cases += [(free(book), claims) for claims in ([], [[], []], [None], [[[0, 0]]])]
        for sender, claims in cases:
            with self.subTest(claims=claims):
                with self.assertRaises(NoClaims):
                    settle(book, sender, claims)
                with self.assertRaises(NoClaims):
                    sure_fault(book, sender, claims, None)
                with self.assertRaises(NoClaims):
                    history_fault(book, sender, claims, None)

    def test_up_to_four_forms(self):
        book = two_cells()
        for many in range(5):
            self.assertEqual(settle(book, free(book), [[[0, 0, 0]] * many])[0], "sure")


if __name__ == "__main__":
    unittest.main()
