"""Pairs of boards: pair vectors [1, cells of the one.., cells of the other..], and tables of their spaces.

The width is always that of the board vectors.
"""

from sharedboard.errors import NoMany
from sharedboard.kinds import is_between
from sharedboard.least import FIRST_MODULUS
from sharedboard.matrices import applied, drawn_back
from sharedboard.modular import basis_modulo
from sharedboard.spaces import Space

MOST_MANY = 200
LONG_BITS = 500


def check_many(many):
    """Raise NoMany for what is no number of further deeds."""
    if not is_between(many, 0, MOST_MANY):
        raise NoMany()


def paired(one, other):
    """Return the pair vector of two board vectors with the same first number."""
    return [*one, *other[1:]]


def halves(width, pair):
    """Return the two board vectors of a pair vector."""
    return pair[:width], [pair[0], *pair[width:]]


def acted(width, matrix, pair):
    """Return what a board matrix makes of a pair vector."""
    one, other = halves(width, pair)
    return paired(applied(width, matrix, one), applied(width, matrix, other))


def drawn_back_pair(width, matrix, form):
    """Return the form whose value on a pair vector is that of a form on what the matrix makes of it."""
    one = drawn_back(width, matrix, form[:width])
    other = drawn_back(width, matrix, [0, *form[width:]])
    return [one[0] + other[0], *one[1:], *other[1:]]


def is_level(width, pair):
    """Tell whether both boards of a pair vector are equal."""
    return pair[1:width] == pair[width:]


def vectors_of(table):
    """Return the dict from the states of a table to the bases of its spaces."""
    return {state: table[state].basis() for state in sorted(list(table))}


def has_long_numbers(table):
    """Tell whether the bases of a table have numbers that make canonical bases slow."""
    return any([
        number.bit_length() > LONG_BITS for state in list(table) for pair in table[state].basis() for number in pair
    ])


def modulo_bases(vectors):
    """Return the dict from states to the bases of their vectors modulo a prime."""
    return {state: sorted(basis_modulo(FIRST_MODULUS, vectors[state])) for state in list(vectors)}


def are_independent(vectors, bases):
    """Tell whether no vector at a state is lost in its basis modulo a prime: then none depends on the others."""
    return all([len(vectors[state]) == len(bases[state]) for state in list(vectors)])


class PairWays:
    """How pairs of boards go on along the ways of a sender."""

    def __init__(self, book, sender, spaces):
        self._width = book.cells() + 1
        self._sender = sender
        self._matrices = {cls: spaces[cls].basis() for cls in list(spaces)}

    def _behind_deeds(self, cls, pairs):
        """Return what the basis matrices of a class make of pair vectors."""
        return [acted(self._width, matrix, pair) for matrix in self._matrices[cls] for pair in pairs]

    def behind(self, table):
        """Return the pair table behind one more deed."""
        found = {}
        for state in sorted(list(table)):
            images = {}
            for cls, other in self._sender.ways(state):
                if cls not in images:
                    images[cls] = Space(2 * self._width - 1, self._behind_deeds(cls, table[state].basis()))
                found[other] = found[other] + images[cls] if other in found else images[cls]
        return found

    def _vectors_behind(self, vectors):
        """Return the dict from states to vectors that span the spaces there behind one more deed."""
        found = {}
        for state in sorted(list(vectors)):
            for cls, other in self._sender.ways(state):
                found[other] = [*found.get(other, []), *self._behind_deeds(cls, vectors[state])]
        return found

    def far_behind(self, table, many):
        """Return the pair table behind many more deeds."""
        left = many
        while left > 0:
            more = self.behind(table)
            if more == table:
                return table
            table = more
            left = left - 1
            if has_long_numbers(table):
                table, left = self._without_bases(table, left)
        return table

    def _without_bases(self, table, left):
        """Return the pair table behind some more deeds, and how many of those that were left are left then.

        It takes no canonical bases on the way. So it stops where vectors depend on one another, or the spaces
        seem to stay as they are.
        """
        vectors = vectors_of(table)
        bases = modulo_bases(vectors)
        begun = left
        while left > 0:
            more = self._vectors_behind(vectors)
            further = modulo_bases(more)
            if further == bases or not are_independent(more, further):
                break
            vectors, bases = more, further
            left = left - 1
        if left == begun:
            return table, left
        return {state: Space(2 * self._width - 1, vectors[state]) for state in list(vectors)}, left

    def leads(self, table, further):
        """Tell whether a further table contains all that the ways lead to from the states of a table."""
        for state in sorted(list(table)):
            pairs = table[state].basis()
            for cls, other in self._sender.ways(state):
                if other not in further:
                    return False
                if not all([pair in further[other] for pair in self._behind_deeds(cls, pairs)]):
                    return False
        return True
