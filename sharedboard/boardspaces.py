"""Board matrices of deeds, made of the run matrices of their runs."""

from sharedboard.spaces import Space


def resting_part(width, matrix):
    """Return the board matrix of a run of that width with n = 0: the row and the column of n are left out."""
    last = width - 1
    return [matrix[width * row + column] for row in range(last) for column in range(last)]


def carried_part(width, matrix):
    """Return what the board matrix changes by if n grows by 1: the column of n in column 0, and 0 elsewhere."""
    last = width - 1
    return [matrix[width * row + last] if column == 0 else 0 for row in range(last) for column in range(last)]


def board_space_of(book, space):
    """Return the space of board matrices that is made of a space of run matrices."""
    width = book.cells() + 2
    matrices = space.basis()
    parts = [resting_part(width, matrix) for matrix in matrices] + [carried_part(width, matrix) for matrix in matrices]
    return Space((width - 1) * (width - 1), parts)


def board_spaces(book, spaces):
    """Return the dict of the board spaces that are made of a table's spaces."""
    return {cls: board_space_of(book, spaces[cls]) for cls in list(spaces)}
