"""Least deeds: deeds of a class whose board matrices span those of all its deeds."""

from sharedboard.boardspaces import carried_part, resting_part


class LeastDeed:
    """A deed whose run is one of the least runs of its class, with its board matrix."""

    def __init__(self, cls, run, n, matrix, length):
        self.cls = cls
        self.run = run
        self.n = n
        self.matrix = matrix
        self.length = length


def least_deeds(book, least, cls):
    """Return the least deeds of a class, the lengths of their runs not descending.

    The deeds of a run with n = 0 and n = 1 give what its deeds with any n give.
    """
    width = book.cells() + 2
    found = []
    for run, matrix, length in least.of_class(cls):
        resting = resting_part(width, matrix)
        carried = carried_part(width, matrix)
        found.append(LeastDeed(cls, run, 0, resting, length))
        if any(carried):
            with_one = [one + other for one, other in zip(resting, carried)]
            found.append(LeastDeed(cls, run, 1, with_one, length))
    return found


def written_deed(least, deed):
    """Return the tuple (procedure, bits, n) of a least deed."""
    return deed.cls[0], least.bits(deed.run), deed.n
