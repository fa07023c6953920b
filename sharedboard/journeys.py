"""Journeys: shortest let histories whose boards span those of all let histories, state by state."""

from sharedboard.echelon import extended
from sharedboard.kinds import class_list
from sharedboard.leastdeeds import least_deeds, written_deed
from sharedboard.matrices import applied


class Journey:
    """A let history: the deed that it ends with, behind another journey, the state and the board vector there."""

    def __init__(self, state, vector, before, deed):
        self.state = state
        self.vector = vector
        self.before = before
        self.deed = deed


class Journeys:
    """The journeys that are needed, those with few deeds first.

    A journey whose board vector is a combination of those of earlier journeys at its state is not needed:
    whatever is linear in the board is nonzero behind it only if it is behind one of them.
    """

    def __init__(self, book, sender, least):
        self._sender = sender
        self._least = least
        self._width = book.cells() + 1
        self._deeds = {cls: least_deeds(book, least, cls) for cls in class_list(len(book))}
        self._bases = [[] for _ in range(sender.states())]
        self.journeys = []
        self._weigh(Journey(0, [1] + [0] * book.cells(), None, None))
        at = 0
        while at < len(self.journeys):
            self._lead_on(self.journeys[at])
            at = at + 1

    def _weigh(self, journey):
        """Note a journey if it is needed."""
        basis = self._bases[journey.state]
        more = extended(basis, journey.vector)
        if len(more) > len(basis):
            self._bases[journey.state] = more
            self.journeys.append(journey)

    def _lead_on(self, journey):
        """Weigh all that leads on from a journey by one deed."""
        for cls, state in self._sender.ways(journey.state):
            for deed in self._deeds[cls]:
                vector = applied(self._width, deed.matrix, journey.vector)
                self._weigh(Journey(state, vector, journey, deed))

    def bases(self):
        """Return the dict from the states that are reached to the canonical bases of the board vectors there."""
        return {
            state: [list(row) for _, row in basis] for state, basis in enumerate(self._bases) if basis
        }

    def history(self, journey):
        """Return the history of a journey."""
        backwards = []
        while journey.before is not None:
            backwards.append(written_deed(self._least, journey.deed))
            journey = journey.before
        backwards.reverse()
        return backwards
