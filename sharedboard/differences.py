"""Differences of two boards: whether they vanish behind a number of further deeds, and deeds behind which they do not.

A difference is a board vector less another one, so its first number is 0; a board matrix acts on it as on these.
"""

from sharedboard.claims import first_broken
from sharedboard.matrices import applied, drawn_back, unit
from sharedboard.pairs import halves
from sharedboard.spaces import Space


def difference(width, pair):
    """Return the difference of the two boards of a pair vector."""
    one, other = halves(width, pair)
    return [number - less for number, less in zip(one, other)]


class Rounds:
    """For each number of further deeds the forms of a difference that are 0 exactly if it always vanishes behind them.

    What vanishes stays so. Thus the forms of a round lie among those of the round before, and from the first round
    on that is equal to the next one they do not change any more.
    """

    def __init__(self, book, sender, spaces):
        self._width = book.cells() + 1
        self._sender = sender
        self._matrices = {cls: spaces[cls].basis() for cls in list(spaces)}
        cells = Space(self._width, [unit(self._width, place) for place in range(1, self._width)])
        self._rounds = [[cells for _ in range(sender.states())]]
        more = self._ahead_of(self._rounds[0])
        while more != self._rounds[-1]:
            self._rounds.append(more)
            more = self._ahead_of(more)

    def _ahead_of(self, spaces):
        """Return the spaces of forms, state by state, ahead of one more deed."""
        return [self._forms_at(state, spaces) for state in range(len(spaces))]

    def _forms_at(self, state, spaces):
        """Return the space of the forms at a state ahead of one more deed."""
        forms = [
            [0, *drawn_back(self._width, matrix, form)[1:]]
            for cls, other in self._sender.ways(state)
            for matrix in self._matrices[cls]
            for form in spaces[other].basis()
        ]
        return Space(self._width, forms)

    def forms(self, state, many):
        """Return the canonical basis of the forms at a state, with that many deeds to come."""
        return self._rounds[min(many, len(self._rounds) - 1)][state].basis()

    def vanish(self, state, many, vector):
        """Tell whether a difference at a state always vanishes behind that many deeds."""
        return first_broken(self.forms(state, many), [vector]) is None

    def always_vanish(self, table, many):
        """Tell whether the differences of all pairs of a table always vanish behind that many deeds."""
        return all([
            self.vanish(state, many, difference(self._width, pair))
            for state in list(table) for pair in table[state].basis()
        ])

    def first_vanishing(self, table):
        """Return the least number of deeds behind which the differences of a table always vanish, or None."""
        for many in range(len(self._rounds)):
            if self.always_vanish(table, many):
                return many
        return None

    def lasting(self, modulus, deeds, state, vector, many):
        """Return that many deeds behind which a difference at a state does not vanish, counted with a modulus, or None.

        The deeds are a dict from the classes to their least deeds. What does not vanish for the modulus does not
        vanish at all; the other way round this may be wrong for some moduli.
        """
        found = []
        for rest in reversed(range(many)):
            step = self._step(modulus, deeds, state, vector, rest)
            if step is None:
                return None
            deed, state, vector = step
            found.append(deed)
        return None if self._vanish_modulo(modulus, state, 0, vector) else found

    def _step(self, modulus, deeds, state, vector, rest):
        """Return (deed, state, difference) behind a deed after which the difference may last for the rest, or None."""
        for cls, other in self._sender.ways(state):
            for deed in deeds[cls]:
                behind = [number % modulus for number in applied(self._width, deed.matrix, vector)]
                if not self._vanish_modulo(modulus, other, rest, behind):
                    return deed, other, behind
        return None

    def _vanish_modulo(self, modulus, state, many, vector):
        """Tell whether all forms at a state are 0 on a difference, counted with a modulus."""
        return all([
            sum([one * other for one, other in zip(form, vector)]) % modulus == 0
            for form in self.forms(state, many)
        ])
