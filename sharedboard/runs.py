"""Runs: what they do to a board, and their matrices."""

from sharedboard.errors import NoBoard, NoNumber, NoProcedure
from sharedboard.execution import behind, executed
from sharedboard.kinds import is_board, is_index, is_integer
from sharedboard.matrices import of_columns, unit


def run_of(book, procedure, bits):
    """Return the execution of a run; raise NoProcedure, then NoRun."""
    if not is_index(procedure, len(book)):
        raise NoProcedure()
    return executed(book, procedure, bits)


def given_board(book, board):
    """Return the board that is meant, None being the start; raise NoBoard."""
    if board is None:
        return tuple([0] * book.cells())
    if not is_board(board, book.cells()):
        raise NoBoard()
    return board


def played(book, procedure, bits, *, board=None, n=0):
    """Return the tuple (way, board, n, length) behind a run from a board and n."""
    run = run_of(book, procedure, bits)
    first = given_board(book, board)
    if not is_integer(n):
        raise NoNumber()
    numbers = behind(run.steps, [1, *first, n])
    return run.way, tuple(numbers[1:-1]), numbers[-1], run.length


def run_matrix(book, procedure, bits):
    """Return the tuple (way, matrix, length) of a run."""
    run = run_of(book, procedure, bits)
    width = book.cells() + 2
    columns = [behind(run.steps, unit(width, place)) for place in range(width)]
    return run.way, of_columns(columns), run.length
