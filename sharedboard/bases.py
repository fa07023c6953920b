"""Least runs of classes, and the spaces of the board matrices of their deeds."""

from sharedboard.boardspaces import board_space_of
from sharedboard.errors import NoClass
from sharedboard.kinds import is_class
from sharedboard.least import least_runs
from sharedboard.tables import table


def basis_runs(book, cls):
    """Return runs of a class, as short as possible, whose matrices are a basis of its run space."""
    if not is_class(cls, len(book)):
        raise NoClass()
    least = least_runs(book)
    return [least.bits(run) for run, _, _ in least.of_class(cls)]


def board_space(book, cls):
    """Return the space of the board matrices of all deeds of a class."""
    if not is_class(cls, len(book)):
        raise NoClass()
    return board_space_of(book, table(book)[cls])
