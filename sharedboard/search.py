"""Searching least runs: for each point of a book, runs up to it whose matrices span those of all runs up to it.

Runs up to a point are offered in the order of their lengths. One is taken if its matrix does not lie in the
space of those taken at its point before, otherwise it is passed over: whatever leads on from it gives what the
runs in the place of it give, and these are not longer.
"""

from heapq import heappop, heappush

from sharedboard.flow import NO_BIT, joined_matrix
from sharedboard.matrices import composed, identity
from sharedboard.modular import rest_modulo, with_rest_modulo

NONE = -1


class Offer:
    """A run up to the point target: it goes on from the run before by a step.

    The step is that of a move, perhaps with a bit, or that of the join link with the run inner of another part.
    Runs are named by the numbers of their offers.
    """

    def __init__(self, target, before, step, bit, link, inner):
        self.target = target
        self.before = before
        self.step = step
        self.bit = bit
        self.link = link
        self.inner = inner


class Search:
    """A search that counts modulo a number: quick however long the runs are, but a guess.

    A run that is taken is kept as its rest, a multiple of its matrix less what earlier runs at its point give:
    what the difference could lead to is offered earlier.
    """

    def __init__(self, flow, modulus):
        self._flow = flow
        self._modulus = modulus
        self._width = flow.run_width
        self._most = 1 + (self._width - 1) * self._width
        self._bases = [[] for _ in flow.moves]
        self._rests = {}
        # For each join the tuples (run, step) of the runs taken at its inner point.
        self._steps = [[] for _ in flow.joins]
        self._queue = []
        self.offers = []
        # The runs taken at each point; the tuples (run, how many had been taken at its point) of the others.
        self.taken = [[] for _ in flow.moves]
        self.passed = []
        self.lengths = {}
        for start in flow.starts:
            self._offer(0, Offer(start, NONE, identity(self._width), NO_BIT, NONE, NONE))
        while self._queue:
            length, run = heappop(self._queue)
            self._weigh(length, run)

    def _offer(self, length, offer):
        heappush(self._queue, (length, len(self.offers)))
        self.offers.append(offer)

    def _weigh(self, length, run):
        """Take an offered run or pass it over."""
        offer = self.offers[run]
        taken = self.taken[offer.target]
        if len(taken) < self._most:
            rest = rest_modulo(self._modulus, self._bases[offer.target], self._matrix(offer))
            if any(rest):
                self._take(length, run, rest)
                return
        self.passed.append((run, len(taken)))

    def _matrix(self, offer):
        if offer.before == NONE:
            return offer.step
        matrix = self._rests[offer.before]
        return matrix if offer.step is None else composed(self._width, matrix, offer.step)

    def _take(self, length, run, rest):
        """Take a run, and offer all that goes on from it, alone or with runs taken earlier."""
        point = self.offers[run].target
        self._bases[point] = with_rest_modulo(self._modulus, self._bases[point], rest)
        self._rests[run] = rest
        self.lengths[run] = length
        self.taken[point].append(run)
        for target, step, bit, cost in self._flow.moves[point]:
            self._offer(length + cost, Offer(target, run, step, bit, NONE, NONE))
        for join in self._flow.leaving[point]:
            for inner, step in self._steps[join]:
                self._offer_join(run, join, inner, step)
        for join in self._flow.entering[point]:
            step = self._step(join, rest)
            self._steps[join].append((run, step))
            for before in self.taken[self._flow.joins[join][0]]:
                self._offer_join(before, join, run, step)

    def _step(self, join, matrix):
        """Return the step of a join for a matrix of the part inside."""
        _, _, _, word, told = self._flow.joins[join]
        return [number % self._modulus for number in joined_matrix(self._width, word, told, matrix)]

    def _offer_join(self, before, join, inner, step):
        length = self.lengths[before] + self.lengths[inner]
        self._offer(length, Offer(self._flow.joins[join][2], before, step, NO_BIT, join, inner))

    def bits(self, run):
        """Return the bits of a run."""
        backwards = []
        waiting = [run]
        while waiting:
            offer = self.offers[waiting.pop()]
            if offer.bit != NO_BIT:
                backwards.append(offer.bit)
            waiting.extend([other for other in (offer.before, offer.inner) if other != NONE])
        backwards.reverse()
        return backwards
