"""One deed goes wrong: the boards of the two replicas, and from when on they are level again."""

from sharedboard.courses import Course
from sharedboard.differences import Rounds
from sharedboard.faultypairs import check_fault, end_matrices, faulty_tables, whole_table
from sharedboard.least import FIRST_MODULUS
from sharedboard.matrices import applied
from sharedboard.pairs import check_many
from sharedboard.sides import choices


class Faults:
    """The faulty pairs of a sender, class by class and all together, and how they go on."""

    def __init__(self, book, sender, fault):
        self._course = Course(book, sender)
        self._fault = fault
        self.pair_ways = self._course.pair_ways
        self.rounds = Rounds(book, sender, self._course.spaces)
        self.tables = faulty_tables(book, sender, fault, self._course.spaces, self._course.journeys.bases())
        self.entries = whole_table(self.tables)

    def lasting_run(self, many):
        """Return (before, after) such that the replicas are not level behind that many further deeds."""
        journey, end, state, vector = self._beginning(many)
        modulus = FIRST_MODULUS
        after = self.rounds.lasting(modulus, self._course.deeds, state, vector, many)
        while after is None:
            modulus = modulus + 2
            after = self.rounds.lasting(modulus, self._course.deeds, state, vector, many)
        before = [*self._course.journeys.history(journey), *self._course.written(end)]
        return before, self._course.written(after)

    def _beginning(self, many):
        """Return (journey, deeds, state, difference): a faulty history from whose end on a difference may last."""
        for classes in list(self.tables):
            if self.rounds.always_vanish(self.tables[classes], many):
                continue
            for journey in self._course.journeys.journeys:
                found = self._end_behind(journey, classes, many)
                if found is not None:
                    return journey, *found
        return None

    def _end_behind(self, journey, classes, many):
        """Return (deeds, state, difference) for the end of a faulty history behind a journey, or None."""
        width = self._course.board_width
        states = self._course.sender.behind(journey.state, list(classes))
        for deeds in choices([self._course.deeds[cls] for cls in classes]) if states else []:
            one, other = end_matrices(width, self._fault, [deed.matrix for deed in deeds])
            vector = applied(width, [number - less for number, less in zip(one, other)], journey.vector)
            for state in states:
                if not self.rounds.vanish(state, many, vector):
                    return deeds, state, vector
        return None


def fault_entries(book, sender, fault):
    """Return the pair table of all faulty pairs."""
    check_fault(fault)
    return Faults(book, sender, fault).entries


def fault_after(book, sender, fault, many):
    """Return the pair table behind exactly that many further deeds."""
    check_fault(fault)
    check_many(many)
    found = Faults(book, sender, fault)
    return found.pair_ways.far_behind(found.entries, many)


def healed(book, sender, fault):
    """Return ("from", k, tables) with the least k such that both are level behind k deeds, otherwise ("never",)."""
    check_fault(fault)
    found = Faults(book, sender, fault)
    many = found.rounds.first_vanishing(found.entries)
    if many is None:
        return ("never",)
    tables = [found.entries]
    for _ in range(many):
        tables.append(found.pair_ways.behind(tables[-1]))
    return "from", many, tables


def fault_run(book, sender, fault, many):
    """Return None if both are level behind that many deeds, otherwise histories (before, after) with which not."""
    check_fault(fault)
    check_many(many)
    found = Faults(book, sender, fault)
    if found.rounds.always_vanish(found.entries, many):
        return None
    return found.lasting_run(many)


def healing(book, sender, fault):
    """Return the ascending list of tuples (classes, k) of the classes that faulty histories end with."""
    check_fault(fault)
    found = Faults(book, sender, fault)
    return [(classes, found.rounds.first_vanishing(found.tables[classes])) for classes in list(found.tables)]
