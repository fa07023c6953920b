"""Spaces of vectors with rational combinations, held by their canonical bases."""

from sharedboard.echelon import basis_of, is_zero, rest_of, vanishing_forms
from sharedboard.errors import NoVectors, NoWidth
from sharedboard.kinds import copied, is_between, is_integer_list
from sharedboard.matrices import applied, composed

MOST_WIDTH = 49


def check_vectors(width, vectors):
    """Raise NoVectors for what is no list of vectors of a width."""
    if not isinstance(vectors, list):
        raise NoVectors(-1)
    for index, vector in enumerate(vectors):
        if not is_integer_list(vector, width):
            raise NoVectors(index)


class Space:
    """The vectors that are combinations of a list of vectors; it does not change."""

    def __init__(self, width, vectors):
        if not is_between(width, 1, MOST_WIDTH):
            raise NoWidth()
        check_vectors(width, vectors)
        self._width = width
        self._basis = basis_of(copied(vectors))

    def width(self):
        """Return the width of the vectors."""
        return self._width

    def basis(self):
        """Return the canonical basis."""
        return [list(row) for _, row in self._basis]

    def within(self, other):
        """Tell whether each vector of this space lies in the other one."""
        return all([row in other for _, row in self._basis])

    def __len__(self):
        return len(self._basis)

    def __contains__(self, vector):
        return is_integer_list(vector, self._width) and is_zero(rest_of(self._basis, vector))

    def __add__(self, other):
        return Space(self._width, [row for _, row in self._basis] + [row for _, row in other._basis])

    def __eq__(self, other):
        return isinstance(other, Space) and self._width == other._width and self._basis == other._basis


def product(width, one, other):
    """Return the space of all compositions of a matrix of the one and a matrix of the other."""
    others = other.basis()
    return Space(width * width, [composed(width, first, second) for first in one.basis() for second in others])


def image(width, matrices, vectors):
    """Return the space of what the matrices of the one space give on the vectors of the other."""
    starts = vectors.basis()
    return Space(width, [applied(width, matrix, vector) for matrix in matrices.basis() for vector in starts])


def vanishing(space):
    """Return the space of all forms that are 0 on each vector of a space."""
    width = space.width()
    return Space(width, vanishing_forms(width, space.basis()))
