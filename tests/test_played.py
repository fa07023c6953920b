"""Points 14, 15 and 18: what played returns for runs."""

import random
import unittest

import reference
from samples import wrapped
from sharedboard.books import Book
from sharedboard.errors import NoRun
from sharedboard.runs import played


def body_of(*statements, cells=1):
    return Book(cells, [list(statements)])


ADD_ONE = ("set", 0, [1, 1, 0])
DOUBLE = ("set", 0, [0, 2, 0])
ADD_N = ("set", 0, [0, 1, 1])
N_UP = ("carry", [1, 0, 1])


class CommandTest(unittest.TestCase):
    def test_set_takes_its_row_ahead_of_the_command(self):
        book = Book(3, [[("set", 1, [7, -2, 3, 4, 5])]])
        self.assertEqual(played(book, 0, [], board=(10, 20, 30), n=6), (0, (10, 7 - 20 + 60 + 120 + 30, 30), 6, 1))

    def test_carry_changes_n_only(self):
        book = Book(2, [[("carry", [1, 2, 3, -1])]])
        self.assertEqual(played(book, 0, [], board=(4, 5), n=9), (0, (4, 5), 1 + 8 + 15 - 9, 1))

    def test_commands_come_one_after_the_other(self):
        self.assertEqual(played(body_of(ADD_ONE, DOUBLE), 0, [], board=(3,)), (0, (8,), 0, 2))
        self.assertEqual(played(body_of(DOUBLE, ADD_ONE), 0, [], board=(3,)), (0, (7,), 0, 2))
        self.assertEqual(played(body_of(N_UP, ADD_N, N_UP), 0, [], board=(3,), n=5), (0, (9,), 7, 3))

    def test_an_empty_body_ends_in_way_0(self):
        self.assertEqual(played(body_of(), 0, [], board=(3,), n=5), (0, (3,), 5, 0))

    def test_without_board_and_n(self):
        for cells in (1, 2, 3):
            book = Book(cells, [[("set", 0, [4, *[1] * (cells + 1)]), ("carry", [2, *[1] * (cells + 1)])]])
            self.assertEqual(played(book, 0, []), (0, (4, *[0] * (cells - 1)), 6, 2))
            self.assertEqual(played(book, 0, [], board=None, n=0), played(book, 0, []))
            self.assertEqual(played(book, 0, [], n=1)[1][0], 5)

    def test_numbers_of_fifty_digits(self):
        big = 10 ** 49 + 12345
        book = Book(2, [[("set", 0, [-9, 9, -9, 9]), ("carry", [0, 1, 0, -1])]])
        first = -9 + 9 * big - 9 * (7 - big) - 9 * big
        self.assertEqual(played(book, 0, [], board=(big, 7 - big), n=-big), (0, (first, 7 - big), first + big, 2))

    def test_every_procedure_of_a_book(self):
        book = Book(1, [[ADD_ONE], [DOUBLE], [("end", 1)]])
        self.assertEqual([played(book, p, [], board=(5,)) for p in range(3)],
                         [(0, (6,), 0, 1), (0, (10,), 0, 1), (1, (5,), 0, 0)])


class KeepTest(unittest.TestCase):
    def test_keeps_of_no_some_and_all_cells(self):
        block = [("set", 0, [9, 0, 0, 0]), ("set", 1, [8, 0, 0, 0]), ("carry", [7, 0, 0, 0])]
        for kept, board in (([], (9, 8)), ([0], (1, 8)), ([1], (9, 2)), ([0, 1], (1, 2))):
            book = Book(2, [[("keep", kept, block)]])
            self.assertEqual(played(book, 0, [], board=(1, 2), n=3), (0, board, 3, 3))

    def test_what_is_kept_is_what_was_ahead_of_the_block(self):
        book = body_of(ADD_ONE, N_UP, ("keep", [0], [DOUBLE, N_UP]), ADD_ONE)
        self.assertEqual(played(book, 0, [], board=(3,), n=5), (0, (5,), 6, 5))

    def test_keeps_in_keeps(self):
        inner = ("keep", [1], [("set", 0, [5, 0, 0, 0]), ("set", 1, [6, 0, 0, 0]), ("carry", [7, 0, 0, 0])])
        ahead = [("set", 1, [9, 0, 0, 0]), ("carry", [4, 0, 0, 0])]
        behind = [("set", 1, [0, 0, 1, 1])]
        book = Book(2, [[("keep", [0], [*ahead, inner, *behind])]])
        self.assertEqual(played(book, 0, [], board=(1, 2), n=3), (0, (1, 13), 3, 6))

    def test_an_end_inside_of_keeps_puts_all_back_the_innermost_first(self):
        for way in (0, 1):
            inner = ("keep", [0], [("set", 0, [8, 0, 0, 0]), ("set", 1, [9, 0, 0, 0]), ("end", way)])
            outer = ("keep", [0], [("set", 0, [6, 0, 0, 0]), ("carry", [5, 0, 0, 0]), inner, ("set", 1, [1, 0, 0, 0])])
            book = Book(2, [[("set", 0, [4, 0, 0, 0]), outer, ("set", 1, [2, 0, 0, 0])]])
            # Cell 0 was 6 ahead of the inner keep and 4 ahead of the outer one: 4 is put back last.
            self.assertEqual(played(book, 0, [], board=(1, 2), n=3), (way, (4, 9), 3, 5))

    def test_a_keep_of_the_caller_is_not_put_back_by_an_end_of_the_called(self):
        book = Book(1, [
            [("keep", [0], [("call", 1, [0, 0, 0], [[], [DOUBLE, ("set", 0, [1, 1, 0])]]), ("end", 1)])],
            [("keep", [], [ADD_ONE, ("end", 1)])],
        ])
        self.assertEqual(played(book, 0, [], board=(3,), n=2), (1, (3,), 2, 3))
        book = Book(1, [
            [("keep", [], [("call", 1, [0, 0, 0], [[], [DOUBLE, ("set", 0, [1, 1, 0])]]), ("end", 1)])],
            [("keep", [], [ADD_ONE, ("end", 1)])],
        ])
        self.assertEqual(played(book, 0, [], board=(3,), n=2), (1, (9,), 2, 3))


class ChoiceTest(unittest.TestCase):
    def test_either(self):
        book = body_of(("either", [ADD_ONE], [DOUBLE, DOUBLE]), N_UP)
        self.assertEqual(played(book, 0, [0], board=(3,)), (0, (4,), 1, 2))
        self.assertEqual(played(book, 0, [1], board=(3,)), (0, (12,), 1, 3))

    def test_either_with_empty_blocks(self):
        book = body_of(("either", [], []), ("either", [], [("end", 1)]), ADD_ONE)
        self.assertEqual(played(book, 0, [1, 0]), (0, (1,), 0, 1))
        self.assertEqual(played(book, 0, [0, 1]), (1, (0,), 0, 0))

    def test_again_with_no_one_and_many_rounds(self):
        book = body_of(("again", [ADD_ONE, N_UP]), DOUBLE)
        for rounds in (0, 1, 2, 7, 50):
            bits = [1] * rounds + [0]
            self.assertEqual(played(book, 0, bits), (0, (2 * rounds,), rounds, 2 * rounds + 1))

    def test_again_with_choices_inside(self):
        book = body_of(("again", [("either", [ADD_ONE], [DOUBLE])]))
        self.assertEqual(played(book, 0, [1, 0, 1, 1, 1, 0, 0]), (0, (3,), 0, 3))

    def test_an_end_leaves_a_loop(self):
        book = body_of(("again", [ADD_ONE, ("either", [], [("end", 1)])]), ("set", 0, [9, 0, 0]))
        self.assertEqual(played(book, 0, [1, 0, 1, 0, 1, 1]), (1, (3,), 0, 3))
        self.assertEqual(played(book, 0, [1, 0, 0]), (0, (9,), 0, 2))

    def test_loops_in_loops(self):
        book = body_of(("again", [ADD_ONE, ("again", [DOUBLE])]))
        self.assertEqual(played(book, 0, [1, 1, 1, 0, 1, 0, 0]), (0, (5,), 0, 4))


class CallTest(unittest.TestCase):
    def test_n_behind_a_call_is_what_it_was(self):
        book = Book(1, [[("call", 1, [2, 1, 3], [[], []]), ADD_N], [N_UP, ADD_N, N_UP]])
        # n is 2 + 10 + 15 in the call, 28 at the set, and 5 again behind it.
        self.assertEqual(played(book, 0, [], board=(10,), n=5), (0, (10 + 28 + 5,), 5, 4))

    def test_the_block_of_the_way_is_executed(self):
        book = Book(1, [
            [("call", 1, [0, 0, 0], [[("set", 0, [7, 1, 0])], [("set", 0, [8, 1, 0]), N_UP]]), ADD_ONE],
            [("either", [], [("end", 1)])],
        ])
        self.assertEqual(played(book, 0, [0]), (0, (8,), 0, 2))
        self.assertEqual(played(book, 0, [1]), (0, (9,), 1, 3))

    def test_an_end_in_the_block_of_a_call_ends_the_calling_procedure(self):
        for way in (0, 1):
            book = Book(1, [
                [("again", [("call", 1, [0, 0, 0], [[ADD_ONE, ("end", way)], []])]), DOUBLE],
                [("set", 0, [5, 0, 0])],
            ])
            self.assertEqual(played(book, 0, [1]), (way, (6,), 0, 2))

    def test_calls_in_the_blocks_of_calls(self):
        book = Book(1, [
            [("call", 1, [1, 0, 0], [[], [("call", 1, [2, 0, 0], [[("call", 1, [3, 0, 0], [[], []])], []])]])],
            [ADD_N, ("either", [], [("end", 1)])],
        ])
        self.assertEqual(played(book, 0, [0]), (0, (1,), 0, 1))
        self.assertEqual(played(book, 0, [1, 1]), (0, (3,), 0, 2))
        self.assertEqual(played(book, 0, [1, 0, 1]), (0, (6,), 0, 3))

    def test_calls_in_loops_both_ways(self):
        book = Book(1, [
            [("again", [("call", 1, [1, 0, 0], [[ADD_ONE], [DOUBLE]])])],
            [ADD_N, ("either", [], [("end", 1)])],
        ])
        self.assertEqual(played(book, 0, [1, 0, 1, 1, 1, 0, 0], board=(3,)), (0, (14,), 0, 6))

    def test_a_procedure_that_calls_itself(self):
        book = body_of(("either", [], [ADD_N, ("call", 0, [1, 0, 1], [[ADD_N], []])]))
        # n is 2, then 3, then 4; behind the calls 3 and 2 are added again.
        self.assertEqual(played(book, 0, [1, 1, 1, 0], n=2), (0, (2 + 3 + 4 + 4 + 3 + 2,), 2, 6))

    def test_two_that_call_one_another(self):
        book = Book(1, [
            [("either", [("end", 1)], [ADD_ONE, ("call", 1, [0, 0, 0], [[("end", 1)], [DOUBLE]])])],
            [("call", 0, [0, 0, 0], [[], [ADD_ONE, ("end", 1)]])],
        ])
        self.assertEqual(played(book, 0, [0]), (1, (0,), 0, 0))
        self.assertEqual(played(book, 0, [1, 0]), (0, (4,), 0, 3))
        self.assertEqual(played(book, 1, [1, 0]), (0, (4,), 0, 3))
        self.assertEqual(played(book, 1, [0]), (1, (1,), 0, 1))
        self.assertEqual(played(book, 0, [1, 1, 0]), (1, (6,), 0, 4))

    def test_a_call_of_itself_behind_a_bit_of_the_called_one(self):
        # Behind the first call a bit has been taken since procedure 0 began.
        book = Book(1, [[("call", 1, [0, 0, 0], [[], [("call", 0, [0, 0, 0], [[], []])]])],
                        [ADD_ONE, ("either", [], [("end", 1)])]])
        self.assertEqual(played(book, 0, [1, 1, 0]), (0, (3,), 0, 3))

    def test_two_calls_of_one_procedure_one_behind_the_other_need_no_bit(self):
        book = Book(1, [[("call", 1, [1, 0, 0], [[], []]), ("call", 1, [2, 0, 0], [[], []])], [ADD_N]])
        self.assertEqual(played(book, 0, []), (0, (3,), 0, 2))


class EndTest(unittest.TestCase):
    def test_statements_behind_an_end(self):
        self.assertEqual(played(body_of(ADD_ONE, ("end", 1), ADD_ONE, ("end", 0)), 0, []), (1, (1,), 0, 1))
        book = body_of(("either", [("end", 1), ADD_ONE], [("end", 0), ADD_ONE]), ADD_ONE)
        self.assertEqual(played(book, 0, [0]), (1, (0,), 0, 0))
        self.assertEqual(played(book, 0, [1]), (0, (0,), 0, 0))

    def test_each_statement_at_each_level(self):
        # The wrapping takes a bit 1 for each level, and a 0 behind each loop that is left.
        told = {
            ("set", 0, (3, 1, 0)): (0, (8,), 2, 1), ("carry", (3, 0, 1)): (0, (5,), 5, 1),
            ("end", 0): (0, (5,), 2, 0), ("end", 1): (1, (5,), 2, 0),
        }
        for statement, expected in told.items():
            statement = tuple(list(part) if isinstance(part, tuple) else part for part in statement)
            for path in ((0,), (0, 0, 0), (0, 1, 0), (0, 0, 0, 1, 0), (0, 1, 0, 0, 0, 1, 0), (0, 0, 0, 0, 0, 0, 0)):
                levels = path[1::2]
                behind = [] if statement[0] == "end" else [0] * levels.count(0)
                book = Book(1, [wrapped(statement, path)])
                with self.subTest(statement=statement, path=path):
                    self.assertEqual(played(book, 0, [1] * len(levels) + behind, board=(5,), n=2), expected)

    def test_each_statement_with_blocks_at_each_level(self):
        statements = {
            "keep": (("keep", [], [ADD_ONE, N_UP]), [], (6,), 2, 2),
            "either": (("either", [], [ADD_ONE, N_UP]), [1], (6,), 3, 2),
            "again": (("again", [ADD_ONE, N_UP]), [1, 1, 0], (7,), 4, 4),
            "call": (("call", 1, [0, 0, 1], [[], [N_UP]]), [], (7,), 3, 2),
        }
        for statement, bits, board, n, length in statements.values():
            for path in ((0,), (0, 0, 0), (0, 1, 0), (0, 0, 0, 1, 0), (0, 1, 0, 0, 0)):
                levels = path[1::2]
                book = Book(1, [wrapped(statement, path), [ADD_N, ("end", 1)]])
                with self.subTest(statement=statement, path=path):
                    bits_there = [1] * len(levels) + bits + [0] * levels.count(0)
                    self.assertEqual(played(book, 0, bits_there, board=(5,), n=2), (0, board, n, length))


class LongTest(unittest.TestCase):
    def test_a_procedure_that_calls_itself_199_times(self):
        book = body_of(("either", [("end", 1)], [ADD_N, ("call", 0, [1, 0, 1], [[], [ADD_ONE, ("end", 1)]])]))
        bits = [1] * 199 + [0]
        self.assertEqual(played(book, 0, bits, n=1), (1, (199 * 200 // 2 + 199,), 1, 398))

    def test_calls_and_keeps_199_deep(self):
        inner = [("set", 0, [1, 1, 0, 0]), ("call", 0, [1, 0, 0, 1], [[], []])]
        book = Book(2, [[("either", [], [("keep", [0], inner), ("set", 1, [1, 0, 1, 1])])]])
        self.assertEqual(played(book, 0, [1] * 199 + [0]), (0, (0, sum(k + 1 for k in range(199))), 0, 398))

    def test_199_rounds_of_eight_commands(self):
        book = body_of(("again", [ADD_ONE] * 8))
        self.assertEqual(played(book, 0, [1] * 199 + [0]), (0, (8 * 199,), 0, 8 * 199))

    def test_many_calls_between_two_bits(self):
        call = ("call", 1, [0, 0, 0], [[], []])
        book = Book(1, [[call] * 8, [("call", 2, [0, 0, 0], [[], []])] * 8, [ADD_ONE] * 8])
        self.assertEqual(played(book, 0, []), (0, (512,), 0, 512))

    def test_five_thousand_commands(self):
        inner = ("call", 1, [0, 0, 0], [[], []])
        book = Book(1, [[("again", [inner] * 4)], [ADD_ONE] * 8])
        self.assertEqual(played(book, 0, [1] * 156 + [0]), (0, (4992,), 0, 4992))


class ComparedTest(unittest.TestCase):
    def test_random_books_against_a_plain_reading(self):
        runs = 0
        for seed in range(250):
            source = random.Random(seed)
            cells, procedures = source.randint(1, 3), source.randint(1, 3)
            bodies = reference.random_bodies(seed, cells, procedures)
            book = Book(cells, bodies)
            for _ in range(25):
                procedure = source.randrange(procedures)
                bits = reference.random_bits(source, cells, bodies, procedure)
                board = tuple(source.randint(-10 ** 6, 10 ** 6) for _ in range(cells))
                n = source.randint(-99, 99)
                expected = reference.executed(cells, bodies, procedure, bits, board, n)
                with self.subTest(seed=seed, procedure=procedure, bits=bits):
                    if isinstance(expected, int):
                        with self.assertRaises(NoRun) as caught:
                            played(book, procedure, bits, board=board, n=n)
                        self.assertEqual(caught.exception.index, expected)
                    else:
                        runs += 1
                        self.assertEqual(played(book, procedure, bits, board=board, n=n), expected)
        self.assertGreater(runs, 800)

    def test_arguments_stay(self):
        book = body_of(("again", [ADD_ONE]))
        bits = [1, 1, 0]
        played(book, 0, bits, board=(4,), n=2)
        self.assertEqual(bits, [1, 1, 0])
        self.assertEqual(book, body_of(("again", [ADD_ONE])))


if __name__ == "__main__":
    unittest.main()
