"""Deeds and histories: their classes, their matrices and the boards behind them."""

from sharedboard.errors import NoDeed, NoHistory, NoRun
from sharedboard.execution import carried_out, executed
from sharedboard.kinds import is_index, is_integer
from sharedboard.matrices import identity_rows, joined
from sharedboard.runs import given_board


def run_of_deed(book, deed):
    """Return the execution of the run of a deed; raise NoDeed."""
    if not isinstance(deed, tuple) or len(deed) != 3:
        raise NoDeed()
    if not is_index(deed[0], len(book)) or not is_integer(deed[2]):
        raise NoDeed()
    try:
        return executed(book, deed[0], deed[1])
    except NoRun:
        raise NoDeed() from None


def deed_class(book, deed):
    """Return the class of a deed."""
    run = run_of_deed(book, deed)
    return deed[0], run.way


def deed_matrix(book, deed):
    """Return the board matrix of a deed."""
    run = run_of_deed(book, deed)
    width = book.cells() + 1
    # Ahead of the deed n does not depend on the cells: only the constant has a part in it.
    rows = carried_out(run.steps, [*identity_rows(width), [deed[2], *[0] * (width - 1)]])
    return joined(rows[:-1])


def steps_of_history(book, history):
    """Return the tuple (n, steps) of each deed of a history; raise NoHistory."""
    if not isinstance(history, list):
        raise NoHistory(-1)
    found = []
    for index, deed in enumerate(history):
        try:
            run = run_of_deed(book, deed)
        except NoDeed:
            raise NoHistory(index) from None
        found.append((deed[2], run.steps))
    return found


def board_behind(board, n, steps):
    """Return the board behind the steps of a deed."""
    rows = carried_out(steps, [[1], *[[cell] for cell in board], [n]])
    return tuple([row[0] for row in rows[1:-1]])


def boards_along(book, history, board):
    """Return the board ahead of a history and the boards behind each deed of it."""
    deeds = steps_of_history(book, history)
    found = [given_board(book, board)]
    for n, steps in deeds:
        found.append(board_behind(found[-1], n, steps))
    return found


def done(book, history, *, board=None):
    """Return the board behind a history, done from a board."""
    return boards_along(book, history, board)[-1]


def boards(book, history, *, board=None):
    """Generate the boards behind each deed of a history, done from a board."""
    yield from boards_along(book, history, board)[1:]
