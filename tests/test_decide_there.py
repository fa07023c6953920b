"""Point 34: decide_there."""

import copy
import itertools
import unittest

from equationtools import differ, random_equation
from samples import lists_in, spoil
from sendertools import let_histories, random_case, reach_by_layers, running_classes, some_deeds
from sharedboard.books import Book
from sharedboard.deeds import deed_class, done
from sharedboard.equations import decide
from sharedboard.errors import NoEquation, NoState
from sharedboard.reach import decide_there
from sharedboard.senders import Sender, free

A, B, NONE = (0, 0), (1, 0), (0, 1)


def two_cells():
    """Return a book in which A adds n to both cells and B copies cell 0 to cell 1."""
    return Book(2, [[("set", 0, [0, 1, 0, 1]), ("set", 1, [0, 0, 1, 1])], [("set", 1, [0, 1, 0, 0])]])


class WrittenOutTest(unittest.TestCase):
    def test_an_equation_that_holds_only_there(self):
        book = two_cells()
        sender = Sender(book, [[(A, 0)]])
        # Where both cells are equal, B changes nothing.
        self.assertEqual(decide(book, ([B], [0], [], [0, 1]))[0], "deeds")
        self.assertEqual(decide_there(book, sender, 0, ([B], [0], [], [0, 1])), ("holds",))
        self.assertEqual(decide_there(book, free(book), 0, ([B], [0], [], [0, 1])), ("holds",))
        self.assertEqual(decide_there(book, sender, 0, ([A], [0], [], [0]))[0:2], ("breaks", []))

    def test_the_empty_history_may_break(self):
        book = Book(1, [[("set", 0, [0, 1, 1])], [("set", 0, [1, 1, 0])]])
        word, history, deeds = decide_there(book, free(book), 0, ([B], [0], [], [0]))
        self.assertEqual((word, history, [deed_class(book, deed) for deed in deeds]), ("breaks", [], [B]))
        self.assertEqual(deeds[0][:2], (1, []))

    def test_a_shortest_history(self):
        # Each A moves a 1 one cell further; B doubles the last cell, which stays as it is until then.
        step = [("set", 2, [0, 0, 1, 0, 0]), ("set", 1, [0, 1, 0, 0, 0]), ("set", 0, [1, 0, 0, 0, 0])]
        for cell, many in ((0, 1), (1, 2), (2, 3)):
            row = [0] * 5
            row[cell + 1] = 2
            book = Book(3, [step, [("set", cell, row)]])
            word, history, deeds = decide_there(book, Sender(book, [[(A, 0)]]), 0, ([B], [0], [], [0, 1, 2]))
            self.assertEqual((word, len(history), deeds[0][0]), ("breaks", many, 1))

    def test_states(self):
        book = two_cells()
        sender = Sender(book, [[(A, 1)], [(A, 1)]])
        equation = ([A, A], [0, 1], [1, 0], [0, 1])
        doubled = Book(2, [*book.bodies(), [("set", 0, [0, 2, 0, 0])]])
        double = (2, 0)
        there = Sender(doubled, [[(A, 1)], [(A, 1)]])
        self.assertEqual(decide_there(book, sender, 0, equation), ("holds",))
        self.assertEqual(decide_there(doubled, there, 0, ([double], [0], [], [0])), ("holds",))
        word, history, deeds = decide_there(doubled, there, 1, ([double], [0], [], [0]))
        self.assertEqual((word, len(history), len(deeds)), ("breaks", 1, 1))
        self.assertEqual(decide_there(doubled, there, 1, ([double], [0], [], [1])), ("holds",))

    def test_a_state_at_which_no_board_can_come(self):
        book = two_cells()
        sender = Sender(book, [[(A, 0)], [(B, 1)]])
        self.assertEqual(decide_there(book, sender, 1, ([A], [0], [], [0])), ("holds",))
        self.assertEqual(decide_there(book, sender, 0, ([A], [0], [], [0]))[0], "breaks")

    def test_a_variable_without_deeds(self):
        book = two_cells()
        self.assertEqual(decide_there(book, free(book), 0, ([NONE], [0], [], [0])), ("holds",))
        self.assertEqual(decide_there(book, free(book), 0, ([A, NONE], [0], [1], [0])), ("holds",))

    def test_the_deeds_need_not_be_let(self):
        book = two_cells()
        sender = Sender(book, [[(B, 0)]])
        word, history, deeds = decide_there(book, sender, 0, ([A, A], [0], [1], [0]))
        self.assertEqual((word, history, [deed_class(book, deed) for deed in deeds]), ("breaks", [], [A, A]))

    def test_errors_in_their_order(self):
        book = two_cells()
        good = ([A], [0], [], [0])
        for state in (1, 2, -1, True, False, None, "0", [0], (0,), {}, 10 ** 40):
            for equation in (good, None):
                with self.subTest(state=state), self.assertRaises(NoState):
                    decide_there(book, free(book), state, equation)
        for equation, place in ((None, "equation"), (list(good), "equation"), (([], [0], [], [0]), "variables"),
                                (([A], [True], [], [0]), "left"), (([A], [], [], [0]), "right"), (([A], [0], [], [2]), "cells")):
            with self.assertRaises(NoEquation) as caught:
                decide_there(book, free(book), 0, equation)
            self.assertEqual(caught.exception.place, place)

    def test_what_is_returned_is_new(self):
        book = Book(1, [[("either", [("set", 0, [0, 1, 1])], [])], [("either", [("set", 0, [0, 2, 0])], [])]])
        equation = ([B, B], [0], [1], [0])
        kept = copy.deepcopy(equation)
        first = decide_there(book, free(book), 0, equation)
        self.assertEqual((first[0], len(first[1])), ("breaks", 1))
        again = copy.deepcopy(first)
        lists = lists_in(first)
        self.assertEqual(len({id(one) for one in lists}), len(lists))
        spoil(first)
        self.assertEqual(decide_there(book, free(book), 0, equation), again)
        self.assertEqual(equation, kept)


class RandomTest(unittest.TestCase):
    def least_history(self, book, sender, state, equation):
        """Return the least number of deeds behind which the equation breaks, by the boards of each number; or None."""
        bodies, cells = book.bodies(), book.cells()
        lists = [some_deeds(book, cls) for cls in equation[0]]
        pairs = list(itertools.product(*lists))
        best = None
        for history, states in let_histories(book, sender, 3):
            if state in states and (best is None or len(history) < best):
                board = done(book, history)
                if any(differ(cells, bodies, equation, deeds, board) for deeds in pairs):
                    best = len(history)
        return best

    def test_random_equations(self):
        counts = {}
        for seed in range(160):
            source, book, sender = random_case(seed, 2)
            cells, bodies = book.cells(), book.bodies()
            if sender is None or sum(len(some_deeds(book, cls)) for cls in running_classes(book)) > 16:
                continue
            state = source.randrange(sender.states())
            equation = random_equation(seed, running_classes(book), cells)
            found = decide_there(book, sender, state, equation)
            least = self.least_history(book, sender, state, equation)
            counts[found[0]] = counts.get(found[0], 0) + 1
            if found == ("holds",):
                self.assertIsNone(least)
                continue
            word, history, deeds = found
            self.assertEqual(word, "breaks")
            self.assertIn(state, sender.behind(0, [deed_class(book, deed) for deed in history]))
            self.assertEqual([deed_class(book, deed) for deed in deeds], equation[0])
            self.assertTrue(differ(cells, bodies, equation, deeds, done(book, history)))
            self.assertNotEqual(decide(book, equation)[0], "holds")
            if least is not None:
                self.assertLessEqual(len(history), least)
        self.assertGreater(min(counts["holds"], counts["breaks"]), 20)

    def test_what_always_holds_holds_there(self):
        for seed in range(80):
            _, book, sender = random_case(seed)
            if sender is None:
                continue
            equation = random_equation(seed, running_classes(book), book.cells())
            whole = [len(basis) == book.cells() + 1 for basis in reach_by_layers(book, sender).values()]
            for state in range(sender.states()):
                if decide(book, equation)[0] == "holds":
                    self.assertEqual(decide_there(book, sender, state, equation), ("holds",))
                elif sender.states() == 1 and all(whole):
                    self.assertEqual(decide_there(book, sender, state, equation)[0], "breaks")


if __name__ == "__main__":
    unittest.main()
