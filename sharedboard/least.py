"""Least runs with certainty: what a search found, asked exactly."""

from sharedboard.echelon import basis_of, extended, is_zero, rest_of
from sharedboard.flow import Flow, joined_matrix
from sharedboard.matrices import composed, identity
from sharedboard.search import NONE, Search

# 2 to the power of 61, less 1: a prime, so that nearly always the first search is right.
FIRST_MODULUS = 2305843009213693951


class LeastRuns:
    """The least runs of a book that a search took, with their exact matrices."""

    def __init__(self, flow, search):
        self._flow = flow
        self._search = search
        self._width = flow.run_width
        self._matrices = {}
        # A run goes on from runs that were offered earlier.
        for run in sorted([run for taken in search.taken for run in taken]):
            self._matrices[run] = self._matrix(run)
        self._bases = [basis_of([self._matrices[run] for run in taken]) for taken in search.taken]

    def _matrix(self, run):
        """Return the matrix of an offered run."""
        offer = self._search.offers[run]
        if offer.before == NONE:
            return identity(self._width)
        step = offer.step
        if offer.link != NONE:
            step = self._step(offer.link, self._matrices[offer.inner])
        matrix = self._matrices[offer.before]
        return matrix if step is None else composed(self._width, matrix, step)

    def _step(self, join, matrix):
        """Return the step of a join for a matrix of the part inside."""
        _, _, _, word, told = self._flow.joins[join]
        return joined_matrix(self._width, word, told, matrix)

    def are_certain(self):
        """Tell whether the search was right, whatever it counted with."""
        return self._are_independent() and self._are_closed() and self._were_needless()

    def _are_independent(self):
        """Tell whether no run was taken in vain."""
        return all([len(basis) == len(taken) for basis, taken in zip(self._bases, self._search.taken)])

    def _holds(self, point, matrix):
        return is_zero(rest_of(self._bases[point], matrix))

    def _are_closed(self):
        """Tell whether the spaces of all points contain whatever leads to them: then they miss no run."""
        if not all([self._holds(start, identity(self._width)) for start in self._flow.starts]):
            return False
        for point, basis in enumerate(self._bases):
            for target, step, _, _ in self._flow.moves[point]:
                if not self._leads(basis, step, target):
                    return False
        for join, (source, inner, target, _, _) in enumerate(self._flow.joins):
            for _, matrix in self._bases[inner]:
                if not self._leads(self._bases[source], self._step(join, matrix), target):
                    return False
        return True

    def _leads(self, basis, step, target):
        """Tell whether a step leads from a basis into the space of a point."""
        if step is None:
            return all([self._holds(target, matrix) for _, matrix in basis])
        return all([self._holds(target, composed(self._width, matrix, step)) for _, matrix in basis])

    def _were_needless(self):
        """Tell whether each run that was passed over lies in the space of those taken before."""
        bases = [[] for _ in self._bases]
        counts = [0 for _ in self._bases]
        for run, many in self._search.passed:
            point = self._search.offers[run].target
            taken = self._search.taken[point]
            # The space of all that were taken contains every run, as is asked elsewhere.
            if many == len(taken):
                continue
            for earlier in taken[counts[point]:many]:
                bases[point] = extended(bases[point], self._matrices[earlier])
            counts[point] = many
            if not is_zero(rest_of(bases[point], self._matrix(run))):
                return False
        return True

    def of_class(self, cls):
        """Return the tuples (run, matrix, length) of the least runs of a class; the lengths do not descend."""
        return [
            (run, list(self._matrices[run]), self._search.lengths[run])
            for run in self._search.taken[self._flow.ends[cls]]
        ]

    def basis(self, cls):
        """Return the canonical basis of the run space of a class."""
        return [list(row) for _, row in self._bases[self._flow.ends[cls]]]

    def bits(self, run):
        """Return the bits of a run, a new list."""
        return self._search.bits(run)


def least_runs(book, *, modulus=FIRST_MODULUS):
    """Return the least runs of a book, searched with a modulus and, if need be, with greater ones."""
    flow = Flow(book)
    found = LeastRuns(flow, Search(flow, modulus))
    while not found.are_certain():
        modulus = modulus + 2
        found = LeastRuns(flow, Search(flow, modulus))
    return found
