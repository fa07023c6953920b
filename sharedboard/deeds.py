"""Deeds and histories: their classes, their matrices and the boards behind them."""

from sharedboard.errors import NoDeed, NoHistory, NoRun
from sharedboard.execution import behind, executed
from sharedboard.kinds import is_index, is_integer
from sharedboard.matrices import applied, of_columns, unit
from sharedboard.runs import given_board

MANY_STEPS = 40
LONG_BITS = 40000


def run_of_deed(book, deed):
    """Return the execution of the run of a deed; raise NoDeed."""
    if not isinstance(deed, tuple) or len(deed) != 3:
        raise NoDeed()
    if not is_index(deed[0], len(book)) or not is_integer(deed[2]):
        raise NoDeed()
    try:
        return executed(book, deed[0], deed[1])
    except NoRun:
        raise NoDeed() from None


def deed_class(book, deed):
    """Return the class of a deed."""
    run = run_of_deed(book, deed)
    return deed[0], run.way


def deed_matrix(book, deed):
    """Return the board matrix of a deed."""
    run = run_of_deed(book, deed)
    return matrix_of_steps(book.cells() + 1, deed[2], run.steps)


def matrix_of_steps(width, n, steps):
    """Return the board matrix of a deed with these steps that carries n."""
    # Ahead of the deed n does not depend on the cells: only the constant has a part in it.
    starts = [[*unit(width, place), n if place == 0 else 0] for place in range(width)]
    return of_columns([behind(steps, start)[:-1] for start in starts])


def vector_after(n, steps, vector):
    """Return what a deed with these steps that carries n makes of a board vector, whose number 0 need not be 1."""
    # One product of long numbers is quicker than many steps with them.
    if len(steps) > MANY_STEPS and any([number.bit_length() > LONG_BITS for number in vector]):
        return applied(len(vector), matrix_of_steps(len(vector), n, steps), vector)
    return behind(steps, [*vector, n * vector[0]])[:-1]


def runs_of_history(book, history):
    """Return the executions of the runs of the deeds of a history; raise NoHistory."""
    if not isinstance(history, list):
        raise NoHistory(-1)
    found = []
    for index, deed in enumerate(history):
        try:
            found.append(run_of_deed(book, deed))
        except NoDeed:
            raise NoHistory(index) from None
    return found


def steps_of_history(book, history):
    """Return the tuple (n, steps) of each deed of a history; raise NoHistory."""
    runs = runs_of_history(book, history)
    return [(deed[2], run.steps) for deed, run in zip(history, runs)]


def classes_of_history(book, history):
    """Return the classes of the deeds of a history; raise NoHistory."""
    runs = runs_of_history(book, history)
    return [(deed[0], run.way) for deed, run in zip(history, runs)]


def matrices_of_history(book, history):
    """Return the board matrices of the deeds of a history; raise NoHistory."""
    return [matrix_of_steps(book.cells() + 1, n, steps) for n, steps in steps_of_history(book, history)]


def boards_along(book, history, board):
    """Return the board ahead of a history and the boards behind each deed of it."""
    deeds = steps_of_history(book, history)
    found = [given_board(book, board)]
    for n, steps in deeds:
        found.append(tuple(vector_after(n, steps, [1, *found[-1]])[1:]))
    return found


def done(book, history, *, board=None):
    """Return the board behind a history, done from a board."""
    return boards_along(book, history, board)[-1]


def boards(book, history, *, board=None):
    """Generate the boards behind each deed of a history, done from a board."""
    yield from boards_along(book, history, board)[1:]
