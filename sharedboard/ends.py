"""What histories make of board vectors, exactly or counted with a modulus.

What differs when it is counted with a modulus does differ. So the exact numbers, which may become very long, are
asked only if the others seem equal.
"""

from sharedboard.deeds import vector_after
from sharedboard.least import FIRST_MODULUS
from sharedboard.matrices import composed, identity

EXACT = 0


def reduced(modulus, numbers):
    """Return numbers counted with a modulus, or as they are."""
    return numbers if modulus == EXACT else [number % modulus for number in numbers]


def vector_behind(deeds, vector, modulus):
    """Return what deeds, told as tuples (n, steps), make of a board vector."""
    for n, steps in deeds:
        vector = reduced(modulus, vector_after(n, steps, vector))
    return vector


def composed_all(width, matrices, modulus):
    """Return the matrix of matrices one after another."""
    result = reduced(modulus, identity(width))
    for matrix in matrices:
        result = reduced(modulus, composed(width, result, matrix))
    return result


def give_the_same(width, one, other):
    """Tell whether two lists of matrices, done one after another, give the same."""
    for modulus in (FIRST_MODULUS, EXACT):
        if composed_all(width, one, modulus) != composed_all(width, other, modulus):
            return False
    return True


def longer_lists(width, rows, matrices, again):
    """Return the tuples (indexes, matrix) of all lists with one index more, in the order of the lists."""
    found = []
    for indexes, matrix in rows:
        first = indexes[-1] + 1 if indexes and not again else 0
        for index in range(first, len(matrices)):
            more = reduced(FIRST_MODULUS, composed(width, matrix, matrices[index]))
            found.append(([*indexes, index], more))
    return found


def first_indexes(width, ahead, matrices, goal, most, again):
    """Return the first list of indexes whose matrices, behind those ahead, give the same as the goal's, or None.

    Lists with fewer indexes come first; then they come as Python orders them. They have at most so many indexes.
    The indexes of a list ascend, unless an index may come again, and in any order.
    """
    wanted = composed_all(width, goal, FIRST_MODULUS)
    rows = [([], composed_all(width, ahead, FIRST_MODULUS))]
    for many in range(most + 1):
        if many > 0:
            rows = longer_lists(width, rows, matrices, again)
        for indexes, matrix in rows:
            if matrix == wanted and give_the_same(width, [*ahead, *[matrices[index] for index in indexes]], goal):
                return indexes
    return None
