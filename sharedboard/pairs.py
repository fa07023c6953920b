"""Pairs of boards: pair vectors [1, cells of the one.., cells of the other..], and tables of their spaces.

The width is always that of the board vectors.
"""

from sharedboard.errors import NoMany
from sharedboard.kinds import is_between
from sharedboard.matrices import applied, drawn_back
from sharedboard.spaces import Space

MOST_MANY = 200


def check_many(many):
    """Raise NoMany for what is no number of further deeds."""
    if not is_between(many, 0, MOST_MANY):
        raise NoMany()


def paired(one, other):
    """Return the pair vector of two board vectors with the same first number."""
    return [*one, *other[1:]]


def halves(width, pair):
    """Return the two board vectors of a pair vector."""
    return pair[:width], [pair[0], *pair[width:]]


def acted(width, matrix, pair):
    """Return what a board matrix makes of a pair vector."""
    one, other = halves(width, pair)
    return paired(applied(width, matrix, one), applied(width, matrix, other))


def drawn_back_pair(width, matrix, form):
    """Return the form whose value on a pair vector is that of a form on what the matrix makes of it."""
    one = drawn_back(width, matrix, form[:width])
    other = drawn_back(width, matrix, [0, *form[width:]])
    return [one[0] + other[0], *one[1:], *other[1:]]


def is_level(width, pair):
    """Tell whether both boards of a pair vector are equal."""
    return pair[1:width] == pair[width:]


class PairWays:
    """How pairs of boards go on along the ways of a sender."""

    def __init__(self, book, sender, spaces):
        self._width = book.cells() + 1
        self._sender = sender
        self._matrices = {cls: spaces[cls].basis() for cls in list(spaces)}

    def _behind_deeds(self, cls, space):
        """Return vectors that span what deeds of a class make of a space of pair vectors."""
        return [acted(self._width, matrix, pair) for matrix in self._matrices[cls] for pair in space.basis()]

    def behind(self, table):
        """Return the pair table behind one more deed."""
        found = {}
        for state in sorted(list(table)):
            images = {}
            for cls, other in self._sender.ways(state):
                if cls not in images:
                    images[cls] = Space(2 * self._width - 1, self._behind_deeds(cls, table[state]))
                found[other] = found[other] + images[cls] if other in found else images[cls]
        return found

    def leads(self, table, further):
        """Tell whether a further table contains all that the ways lead to from the states of a table."""
        for state in sorted(list(table)):
            for cls, other in self._sender.ways(state):
                if other not in further:
                    return False
                if not all([pair in further[other] for pair in self._behind_deeds(cls, table[state])]):
                    return False
        return True
