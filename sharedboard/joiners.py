"""Joiners: pairs of boards of which the joiner's is any at all, and how they go on."""

from sharedboard.claims import value_of
from sharedboard.courses import Course
from sharedboard.least import FIRST_MODULUS
from sharedboard.matrices import unit
from sharedboard.pairs import drawn_back_pair, paired
from sharedboard.spaces import Space


def simple_boards(width):
    """Return the start and the boards with one 1; their board vectors span those of all boards."""
    return [tuple(unit(width, place)[1:]) for place in range(width)]


def entry_space(width, vectors):
    """Return the space of the pair vectors of entries, from the board vectors of the one."""
    nothing = [0] * width
    pairs = [paired(vector, nothing) for vector in vectors]
    return Space(2 * width - 1, pairs + [paired(nothing, unit(width, place)) for place in range(1, width)])


def broken_modulo(modulus, form, vectors):
    """Tell whether a form is not 0 on some vector, counted with a modulus."""
    return any([value_of(form, vector) % modulus != 0 for vector in vectors])


class Joiners:
    """The entries of joiners and the tables behind further deeds, the last of which stays as it is.

    Each table lies in the one before: an entry behind a deed is one of those that were there before it.
    """

    def __init__(self, book, sender):
        self._course = Course(book, sender)
        self._width = self._course.board_width
        bases = self._course.journeys.bases()
        self.pair_ways = self._course.pair_ways
        self.entries = {state: entry_space(self._width, bases[state]) for state in list(bases)}
        self.tables = [self.entries]
        more = self.pair_ways.behind(self.entries)
        while more != self.tables[-1]:
            self.tables.append(more)
            more = self.pair_ways.behind(more)

    def table(self, many):
        """Return the table behind that many deeds."""
        return self.tables[min(many, len(self.tables) - 1)]

    def breaking_run(self, claims, many):
        """Return (before, board, deeds) such that some claim is broken behind exactly that many deeds."""
        modulus = FIRST_MODULUS
        found = self._run_modulo(modulus, claims, many)
        while found is None:
            modulus = modulus + 2
            found = self._run_modulo(modulus, claims, many)
        journey, board, deeds = found
        return self._course.journeys.history(journey), board, self._course.written(deeds)

    def _run_modulo(self, modulus, claims, many):
        """Return (journey, board, deeds) behind which a claim is broken, counted with a modulus, or None.

        What is not 0 for the modulus is not 0 at all; the other way round this may be wrong for some moduli.
        It goes from the claim back to an entry: each deed draws the form of a claim back to one that is not 0
        on the table ahead of the deed.
        """
        found = self._broken_claim(modulus, claims, self.table(many))
        backwards = []
        for ahead in reversed(range(many)):
            if found is None:
                return None
            found = self._step_back(modulus, self.table(ahead), found[0], found[1])
            if found is not None:
                backwards.append(found[2])
        if found is None:
            return None
        backwards.reverse()
        return self._entry(modulus, found[0], found[1], backwards)

    def _broken_claim(self, modulus, claims, table):
        """Return (state, form) of a claim that is not 0 on a table, or None."""
        for state in sorted(list(table)):
            for form in claims[state]:
                if broken_modulo(modulus, form, table[state].basis()):
                    return state, form
        return None

    def _step_back(self, modulus, table, target, form):
        """Return (state, form, deed): a deed that leads to a state, and the form ahead of it, not 0 there; or None."""
        for state in sorted(list(table)):
            pairs = table[state].basis()
            for cls, other in self._course.sender.ways(state):
                for deed in self._course.deeds[cls] if other == target else []:
                    ahead = [number % modulus for number in drawn_back_pair(self._width, deed.matrix, form)]
                    if broken_modulo(modulus, ahead, pairs):
                        return state, ahead, deed
        return None

    def _entry(self, modulus, state, form, deeds):
        """Return (journey, board, deeds) with an entry at a state on which a form is not 0, or None."""
        for journey in self._course.journeys.journeys:
            if journey.state != state:
                continue
            for board in simple_boards(self._width):
                if broken_modulo(modulus, form, [paired(journey.vector, [1, *board])]):
                    return journey, board, deeds
        return None
