"""Points 4, 16 and 18: deeds, their classes and their matrices, histories and the boards behind them."""

import copy
import inspect
import random
import unittest

import reference
from sharedboard.books import Book
from sharedboard.deeds import boards, deed_class, deed_matrix, done
from sharedboard.errors import NoBoard, NoDeed, NoHistory
from sharedboard.matrices import applied, composed

ADD_N = ("set", 0, [0, 1, 1])


def small_book():
    """Return a book of one cell: procedure 0 adds n or ends in way 1 doubled, procedure 1 only loops."""
    return Book(1, [
        [("either", [ADD_N], [("set", 0, [0, 2, 0]), ("end", 1)])],
        [("again", [("call", 0, [1, 0, 1], [[], [("end", 1)]]), ("carry", [1, 0, 1])])],
    ])


NO_DEEDS = [
    None, 0, "", True, [], {}, (), (0,), (0, [0]), (0, [0], 1, 1), [0, [0], 1],
    (2, [0], 1), (-1, [0], 1), (True, [0], 1), (False, [0], 1), (None, [0], 1), ("0", [0], 1), ([0], [0], 1),
    (0, (0,), 1), (0, None, 1), (0, 0, 1), (0, "0", 1), (0, {}, 1), (0, {0: 0}, 1),
    (0, [], 1), (0, [2], 1), (0, [-1], 1), (0, [True], 1), (0, [False], 1), (0, [0, 0], 1), (0, [[0]], 1), (0, ["0"], 1),
    (1, [1, 0], 1), (1, [0, 0], 1),
    (0, [0], True), (0, [0], False), (0, [0], None), (0, [0], "1"), (0, [0], [1]), (0, [0], (1,)),
]


class DeedTest(unittest.TestCase):
    def test_classes_of_both_ways(self):
        book = small_book()
        self.assertEqual(deed_class(book, (0, [0], 5)), (0, 0))
        self.assertEqual(deed_class(book, (0, [1], 5)), (0, 1))
        self.assertEqual(deed_class(book, (1, [0], -5)), (1, 0))
        self.assertEqual(deed_class(book, (1, [1, 0, 1, 0, 0], 0)), (1, 0))
        self.assertEqual(deed_class(book, (1, [1, 0, 1, 1], 10 ** 50)), (1, 1))

    def test_matrices(self):
        book = small_book()
        self.assertEqual(deed_matrix(book, (0, [0], 5)), [1, 0, 5, 1])
        self.assertEqual(deed_matrix(book, (0, [1], 5)), [1, 0, 0, 2])
        self.assertEqual(deed_matrix(book, (1, [0], 5)), [1, 0, 0, 1])
        # The rounds add 1 + n and 2 + n.
        self.assertEqual(deed_matrix(book, (1, [1, 0, 1, 0, 0], 5)), [1, 0, 13, 1])
        self.assertEqual(deed_matrix(book, (0, [0], -10 ** 59)), [1, 0, -10 ** 59, 1])

    def test_what_is_no_deed(self):
        for thing in NO_DEEDS:
            for action in (deed_class, deed_matrix):
                with self.subTest(thing=thing, action=action.__name__), self.assertRaises(NoDeed):
                    action(small_book(), thing)

    def test_a_call_for_ever_is_no_deed(self):
        book = Book(1, [[("call", 0, [0, 0, 0], [[], []])]])
        for action in (deed_class, deed_matrix):
            with self.assertRaises(NoDeed):
                action(book, (0, [], 0))

    def test_a_thing_nested_thirty_deep(self):
        thing = []
        for _ in range(29):
            thing = [thing]
        for deed in (thing, (0, thing, 1), (thing, [0], 1), (0, [0], thing)):
            with self.assertRaises(NoDeed):
                deed_class(small_book(), deed)
        with self.assertRaises(NoHistory):
            done(small_book(), [thing])

    def test_the_deed_stays_and_the_matrix_is_new(self):
        book = small_book()
        deed = (1, [1, 0, 0], 4)
        first = deed_matrix(book, deed)
        kept = list(first)
        first[:] = ["changed"]
        self.assertEqual(deed_matrix(book, deed), kept)
        deed_class(book, deed)
        self.assertEqual(deed, (1, [1, 0, 0], 4))

    def test_matrices_against_a_plain_reading(self):
        many = 0
        for seed in range(120):
            source = random.Random(seed)
            cells, procedures = source.randint(1, 3), source.randint(1, 3)
            bodies = reference.random_bodies(seed, cells, procedures)
            book = Book(cells, bodies)
            for _ in range(6):
                procedure = source.randrange(procedures)
                bits = reference.random_bits(source, cells, bodies, procedure)
                told = reference.executed(cells, bodies, procedure, bits)
                n = source.choice([0, 1, -3, 10 ** 40])
                deed = (procedure, bits, n)
                if isinstance(told, int):
                    with self.assertRaises(NoDeed):
                        deed_matrix(book, deed)
                    continue
                many += 1
                self.assertEqual(deed_class(book, deed), (procedure, told[0]))
                matrix = deed_matrix(book, deed)
                self.assertEqual(matrix, reference.deed_matrix(cells, bodies, deed))
                self.assertEqual(matrix[:cells + 1], [1] + [0] * cells)
                for board in ((5, -6, 7)[:cells], (10 ** 49, 0, -10 ** 49)[:cells]):
                    behind = done(book, [deed], board=board)
                    self.assertEqual([1, *behind], applied(cells + 1, matrix, [1, *board]))
        self.assertGreater(many, 250)


class HistoryTest(unittest.TestCase):
    def test_the_empty_history(self):
        self.assertEqual(done(small_book(), []), (0,))
        self.assertEqual(done(small_book(), [], board=None), (0,))
        self.assertEqual(done(small_book(), [], board=(7,)), (7,))
        self.assertEqual(list(boards(small_book(), [])), [])
        self.assertEqual(done(Book(3, [[]]), []), (0, 0, 0))

    def test_deeds_are_done_one_after_another_and_n_is_forgotten(self):
        history = [(0, [0], 5), (0, [1], 100), (0, [0], 1), (1, [1, 0, 0], 1), (1, [1, 1], 9)]
        self.assertEqual(done(small_book(), history), (2 * (5 * 2 + 1 + 2),))
        self.assertEqual(list(boards(small_book(), history)), [(5,), (10,), (11,), (13,), (26,)])
        self.assertEqual(list(boards(small_book(), history, board=(1,))), [(6,), (12,), (13,), (15,), (30,)])
        self.assertEqual(done(small_book(), history, board=(1,)), (30,))

    def test_boards_is_a_generator_without_the_board_ahead(self):
        found = boards(small_book(), [(0, [0], 5), (0, [0], 6)])
        self.assertTrue(inspect.isgenerator(found))
        self.assertEqual(next(found), (5,))
        self.assertEqual(next(found), (11,))
        self.assertRaises(StopIteration, next, found)

    def test_210_deeds(self):
        deed = (0, [0], 10 ** 50)
        self.assertEqual(done(small_book(), [deed] * 210), (210 * 10 ** 50,))
        self.assertEqual(len(list(boards(small_book(), [deed] * 210))), 210)
        history = [(0, [0], k) if k % 3 else (0, [1], k) for k in range(210)]
        self.assertEqual(list(boards(small_book(), history))[-1], done(small_book(), history))
        long_deed = (1, [1, 0] * 99 + [0], 1)
        self.assertEqual(done(small_book(), [long_deed] * 210), (210 * sum(range(2, 101)),))

    def test_the_arguments_stay(self):
        history = [(0, [0], 5), (1, [1, 0, 0], 6)]
        kept = copy.deepcopy(history)
        done(small_book(), history)
        list(boards(small_book(), history))
        self.assertEqual(history, kept)

    def test_cut_at_every_place(self):
        for seed in range(40):
            source = random.Random(seed)
            cells, procedures = source.randint(1, 3), source.randint(1, 3)
            bodies = reference.random_bodies(seed, cells, procedures)
            book = Book(cells, bodies)
            history = []
            for _ in range(40):
                procedure = source.randrange(procedures)
                bits = reference.random_bits(source, cells, bodies, procedure)
                if len(history) < 8 and isinstance(reference.executed(cells, bodies, procedure, bits), tuple):
                    history.append((procedure, bits, source.randint(-5, 5)))
            start = tuple(source.randint(-9, 9) for _ in range(cells))
            along = list(boards(book, history, board=start))
            self.assertEqual(len(along), len(history))
            matrix = reference.identity(cells + 1)
            for at, deed in enumerate(history):
                self.assertEqual(done(book, history[:at + 1], board=start), along[at])
                self.assertEqual(done(book, history[at + 1:], board=along[at]), along[-1])
                matrix = composed(cells + 1, matrix, deed_matrix(book, deed))
                self.assertEqual(applied(cells + 1, matrix, [1, *start]), [1, *along[at]])


class HistoryErrorTest(unittest.TestCase):
    def check(self, history, index, **more):
        for action in (done, lambda *given, **named: list(boards(*given, **named))):
            with self.subTest(history=history), self.assertRaises(NoHistory) as caught:
                action(small_book(), history, **more)
            self.assertEqual(caught.exception.index, index)

    def test_no_list(self):
        for history in (None, (), ((0, [0], 1),), 0, "", {}, {0: (0, [0], 1)}, True):
            self.check(history, -1)

    def test_the_first_item_that_is_no_deed(self):
        good = (0, [0], 1)
        for thing in NO_DEEDS:
            self.check([thing], 0)
            self.check([good, good, thing, good, None], 2)

    def test_a_history_comes_ahead_of_a_board(self):
        self.check(None, -1, board=True)
        self.check([(0, [0], 1), (0, [], 1)], 1, board=[1])

    def test_no_board(self):
        for board in ([0], (), (0, 0), (True,), (None,), ("0",), 0, False, "", {}, ((0,),)):
            for history in ([], [(0, [0], 1)]):
                with self.subTest(board=board):
                    with self.assertRaises(NoBoard):
                        done(small_book(), history, board=board)
                    with self.assertRaises(NoBoard):
                        list(boards(small_book(), history, board=board))

    def test_boards_raises_ahead_of_all_boards(self):
        with self.assertRaises(NoHistory):
            next(boards(small_book(), [(0, [0], 1), (0, [0], 1), None]))
        with self.assertRaises(NoBoard):
            next(boards(small_book(), [(0, [0], 1)], board=(1, 2)))


if __name__ == "__main__":
    unittest.main()
