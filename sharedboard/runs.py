"""Runs: what they do to a board, and their matrices."""

from sharedboard.errors import NoBoard, NoNumber, NoProcedure
from sharedboard.execution import carried_out, executed
from sharedboard.kinds import is_board, is_index, is_integer
from sharedboard.matrices import identity_rows, joined


def run_of(book, procedure, bits):
    """Return the execution of a run; raise NoProcedure, then NoRun."""
    if not is_index(procedure, len(book)):
        raise NoProcedure()
    return executed(book, procedure, bits)


def given_board(book, board):
    """Return the board that is meant, None being the start; raise NoBoard."""
    if board is None:
        return tuple([0] * book.cells())
    if not is_board(board, book.cells()):
        raise NoBoard()
    return board


def played(book, procedure, bits, *, board=None, n=0):
    """Return the tuple (way, board, n, length) behind a run from a board and n."""
    run = run_of(book, procedure, bits)
    first = given_board(book, board)
    if not is_integer(n):
        raise NoNumber()
    numbers = [row[0] for row in carried_out(run.steps, [[1], *[[cell] for cell in first], [n]])]
    return run.way, tuple(numbers[1:-1]), numbers[-1], run.length


def run_matrix(book, procedure, bits):
    """Return the tuple (way, matrix, length) of a run."""
    run = run_of(book, procedure, bits)
    rows = carried_out(run.steps, identity_rows(book.cells() + 2))
    return run.way, joined(rows), run.length
