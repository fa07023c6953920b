"""Point 33: sure_fault and history_fault."""

import unittest

from sendertools import let_histories, random_case, value
from sharedboard.bases import board_space
from sharedboard.books import Book
from sharedboard.deeds import done
from sharedboard.errors import NoClaims
from sharedboard.reach import history_fault, reach, sure_fault
from sharedboard.senders import Sender, free
from sharedboard.spaces import Space, image

A, B = (0, 0), (1, 0)


def two_cells():
    """Return a book in which A adds n to both cells and B sets cell 1 to n."""
    return Book(2, [[("set", 0, [0, 1, 0, 1]), ("set", 1, [0, 0, 1, 1])], [("set", 1, [0, 0, 0, 1])]])


def two_states(book):
    return Sender(book, [[(A, 0), (B, 1)], [(A, 1)]])


def whole(width):
    return Space(width, [[int(i == j) for j in range(width)] for i in range(width)])


class SureFaultTest(unittest.TestCase):
    def test_the_form(self):
        book = two_cells()
        good = reach(book, two_states(book))
        for thing in (None, [], (), 0, "", True, [good], {2: whole(3)}, {-1: whole(3)}, {**good, 2: whole(3)},
                      {**good, "0": whole(3)}, {**good, (0,): whole(3)}, {**good, None: whole(3)}, {0: None}, {0: [[1, 0, 0]]},
                      {0: whole(2)}, {0: whole(4)}, {**good, 1: whole(2)}):
            with self.subTest(thing=thing):
                self.assertEqual(sure_fault(book, two_states(book), [[], []], thing), ("form",))
        self.assertEqual(sure_fault(book, free(book), [[]], good), ("form",))

    def test_the_start(self):
        book = two_cells()
        good = reach(book, two_states(book))
        for thing in ({}, {1: good[1]}, {0: Space(3, []), 1: good[1]}, {0: Space(3, [[0, 1, 1]]), 1: good[1]},
                      {0: Space(3, [[1, 1, 1]]), 1: good[1]}):
            self.assertEqual(sure_fault(book, two_states(book), [[[1, 0, 0]], []], thing), ("start",))

    def test_closed(self):
        book = two_cells()
        good = reach(book, two_states(book))
        start = Space(3, [[1, 0, 0]])
        zero = Space(3, [])
        broken = [[[1, 0, 0]], [[1, 0, 0]]]
        for thing, place in (
            ({0: start, 1: good[1]}, (0, 0)),
            ({0: start}, (0, 0)),
            ({0: good[0]}, (0, 1)),
            ({0: good[0], 1: zero}, (0, 1)),
            ({0: good[0], 1: start}, (0, 1)),
            ({0: good[0], 1: Space(3, [[1, 0, 0], [0, 0, 1]])}, (0, 1)),
        ):
            self.assertEqual(sure_fault(book, two_states(book), broken, thing), ("closed", *place))
        # B alone does not fill state 1; with A there it does.
        sender = Sender(book, [[(B, 1)], [(A, 1), (B, 0)]])
        self.assertEqual(sure_fault(book, sender, broken, {0: start, 1: Space(3, [[1, 0, 0], [0, 0, 1]])}), ("closed", 1, 0))
        self.assertEqual(sure_fault(book, sender, broken, {0: start, 1: whole(3)}), ("closed", 1, 1))
        self.assertEqual(sure_fault(book, sender, [[], []], {0: whole(3), 1: whole(3)}), None)

    def test_the_ways_of_a_state_with_the_zero_space_are_asked(self):
        book = two_cells()
        zero = Space(3, [])
        sender = Sender(book, [[(A, 0)], [(A, 0), (B, 1)]])
        good = reach(book, sender)
        self.assertEqual(list(good), [0])
        self.assertIsNone(sure_fault(book, sender, [[], [[1, 0, 0]]], {**good, 1: zero}))
        # State 1 leads to state 0 by A, and to itself by B: all are keys.
        lonely = Sender(book, [[(A, 0)], [(B, 1)]])
        self.assertIsNone(sure_fault(book, lonely, [[], []], {**reach(book, lonely), 1: zero}))
        back = Sender(book, [[(B, 1)], [(A, 0), (A, 1)]])
        self.assertEqual(sure_fault(book, back, [[], []], {0: zero}), ("start",))
        self.assertEqual(sure_fault(book, back, [[], []], {0: Space(3, [[1, 0, 0]])}), ("closed", 0, 0))

    def test_claims(self):
        book = two_cells()
        sender = two_states(book)
        good = reach(book, sender)
        claim, broken = [0, 1, -1], [0, 1, 0]
        self.assertIsNone(sure_fault(book, sender, [[claim], []], good))
        self.assertEqual(sure_fault(book, sender, [[claim, claim, broken], [broken]], good), ("claim", 0, 2))
        self.assertEqual(sure_fault(book, sender, [[claim], [[0, 0, 0], claim]], good), ("claim", 1, 1))
        self.assertEqual(sure_fault(book, sender, [[broken, claim], [claim]], good), ("claim", 0, 0))
        # A greater table shows less.
        self.assertEqual(sure_fault(book, sender, [[claim], []], {0: whole(3), 1: whole(3)}), ("claim", 0, 0))
        self.assertIsNone(sure_fault(book, sender, [[[0, 0, 0]], []], {0: whole(3), 1: whole(3)}))

    def test_claims_are_not_asked_at_states_that_the_thing_does_not_have(self):
        book = two_cells()
        sender = Sender(book, [[(A, 0)], [(A, 0)]])
        self.assertIsNone(sure_fault(book, sender, [[], [[1, 0, 0]]], reach(book, sender)))

    def test_no_claims_comes_ahead_of_all(self):
        book = two_cells()
        for thing in (None, {}, reach(book, two_states(book))):
            with self.assertRaises(NoClaims):
                sure_fault(book, two_states(book), [[]], thing)

    def test_random_things_by_the_words(self):
        seen = set()
        for seed in range(150):
            source, book, sender = random_case(seed, 2)
            if sender is None:
                continue
            cells = book.cells()
            thing = reach(book, sender)
            for _ in range(source.randint(0, 2)):
                state = source.randrange(sender.states())
                rows = [[source.randint(-1, 1) for _ in range(cells + 1)] for _ in range(source.randint(0, cells + 1))]
                thing[state] = Space(cells + 1, rows) + (thing[state] if state in thing and source.random() < 0.6 else Space(cells + 1, []))
            if source.random() < 0.2:
                thing.pop(source.randrange(sender.states()), None)
            claims = [[[0] + [source.choice([0, 0, 1]) for _ in range(cells)]] for _ in range(sender.states())]
            expected = self.by_the_words(book, sender, claims, thing)
            self.assertEqual(sure_fault(book, sender, claims, thing), expected)
            seen.add(expected)
        self.assertEqual({one and one[0] for one in seen}, {None, "start", "closed", "claim"})

    def by_the_words(self, book, sender, claims, thing):
        if 0 not in thing or [1] + [0] * book.cells() not in thing[0]:
            return ("start",)
        for state in sorted(thing):
            for index, (cls, other) in enumerate(sender.ways(state)):
                if other not in thing:
                    return "closed", state, index
                given = image(book.cells() + 1, board_space(book, cls), thing[state])
                if not given.within(thing[other]):
                    return "closed", state, index
        for state in sorted(thing):
            for index, form in enumerate(claims[state]):
                if any(value(form, vector) for vector in thing[state].basis()):
                    return "claim", state, index
        return None

    def test_the_arguments_stay(self):
        book = two_cells()
        good = reach(book, two_states(book))
        kept = {state: space.basis() for state, space in good.items()}
        claims = [[[0, 1, -1]], []]
        sure_fault(book, two_states(book), claims, good)
        self.assertEqual({state: space.basis() for state, space in good.items()}, kept)
        self.assertEqual(claims, [[[0, 1, -1]], []])


class HistoryFaultTest(unittest.TestCase):
    def test_the_form(self):
        book = two_cells()
        good = (0, [], 1)
        for thing in (None, (), (good,), 0, "", {}, {0: good}, [None], [good, None], [(0, [0], 1)], [(0, [], True)],
                      [[0, [], 1]], [(2, [], 1)], [good, good, (0, (), 1)], True):
            with self.subTest(thing=thing):
                self.assertEqual(history_fault(book, two_states(book), [[[1, 0, 0]], []], thing), ("form",))

    def test_let(self):
        book = two_cells()
        a, b = (0, [], 1), (1, [], 5)
        sender = two_states(book)
        for thing, index in (([b, b], 1), ([a, b, a, b, a], 3), ([b, a, a, b, b], 3)):
            self.assertEqual(history_fault(book, sender, [[], []], thing), ("let", index))
        self.assertEqual(history_fault(book, Sender(book, [[(A, 0)]]), [[[1, 0, 0]]], [b]), ("let", 0))

    def test_kept_and_broken(self):
        book = two_cells()
        a, b = (0, [], 1), (1, [], 5)
        sender = two_states(book)
        claims = [[[0, 1, -1]], [[0, 0, 1], [0, 0, 0]]]
        self.assertEqual(history_fault(book, sender, claims, []), ("kept",))
        self.assertEqual(history_fault(book, sender, claims, [a, a]), ("kept",))
        self.assertIsNone(history_fault(book, sender, claims, [a, b]))
        self.assertEqual(history_fault(book, sender, claims, [a, (1, [], 0)]), ("kept",))
        self.assertIsNone(history_fault(book, sender, [[[1, 0, 0]], []], []))
        self.assertIsNone(history_fault(book, sender, [[[-2, 1, 0]], []], [a]))
        self.assertEqual(history_fault(book, sender, [[[-2, 1, 0]], []], [a, a]), ("kept",))

    def test_each_state_at_which_it_ends_is_asked(self):
        book = two_cells()
        sender = Sender(book, [[(A, 0), (A, 1)], [(B, 1)]])
        a = (0, [], 1)
        self.assertIsNone(history_fault(book, sender, [[], [[0, 1, 0]]], [a]))
        self.assertIsNone(history_fault(book, sender, [[[0, 1, 0]], []], [a]))
        self.assertEqual(history_fault(book, sender, [[], [[0, 1, -1]]], [a]), ("kept",))
        self.assertEqual(history_fault(book, sender, [[[0, 1, 0]], []], [a, (1, [], 0)]), ("kept",))

    def test_long_histories(self):
        book = two_cells()
        a = (0, [], 1)
        self.assertIsNone(history_fault(book, free(book), [[[0, 1, 0]]], [a] * 210))
        self.assertEqual(history_fault(book, two_states(book), [[], []], [a] * 208 + [(1, [], 1)] * 2), ("let", 209))

    def test_no_claims_comes_ahead_of_all(self):
        book = two_cells()
        for thing in (None, [], [(1, [], 1), (1, [], 1)]):
            with self.assertRaises(NoClaims):
                history_fault(book, two_states(book), [[], [[0, 0]]], thing)

    def test_random_histories_by_trying(self):
        seen = set()
        for seed in range(60):
            source, book, sender = random_case(seed)
            if sender is None:
                continue
            claims = [[[source.choice([0, 0, 1]) for _ in range(book.cells() + 1)]] for _ in range(sender.states())]
            for history, states in let_histories(book, sender, 2):
                vector = [1, *done(book, history)]
                broken = any(value(form, vector) for state in states for form in claims[state])
                found = history_fault(book, sender, claims, history)
                self.assertEqual(found, None if broken else ("kept",))
                seen.add(found)
        self.assertEqual(len(seen), 2)

    def test_the_arguments_stay(self):
        book = two_cells()
        history = [(0, [], 1), (1, [], 2)]
        claims = [[[0, 1, 0]], []]
        history_fault(book, two_states(book), claims, history)
        self.assertEqual((history, claims), ([(0, [], 1), (1, [], 2)], [[[0, 1, 0]], []]))


if __name__ == "__main__":
    unittest.main()
