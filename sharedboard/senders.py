"""Senders: which deeds may follow one another."""

from sharedboard.errors import NoClasses, NoSender, NoState
from sharedboard.flow import classes_with_runs
from sharedboard.kinds import copied, is_class, is_index

MOST_STATES = 2


def is_way_list(value, procedures, running, states):
    """Tell whether a value is a list of ways, the classes being among the running ones."""
    if not isinstance(value, list) or not value:
        return False
    for way in value:
        if not isinstance(way, tuple) or len(way) != 2:
            return False
        # The form is asked ahead of the comparison, for a flag equals an integer.
        if not is_class(way[0], procedures) or way[0] not in running or not is_index(way[1], states):
            return False
    return all([one < other for one, other in zip(value, value[1:])])


def check_ways(book, ways):
    """Raise NoSender for what are no ways of a sender of a book."""
    if not isinstance(ways, list) or not 1 <= len(ways) <= MOST_STATES:
        raise NoSender(-1)
    running = classes_with_runs(book)
    for state, value in enumerate(ways):
        if not is_way_list(value, len(book), running, len(ways)):
            raise NoSender(state)


class Sender:
    """The ways from state to state; it does not change."""

    def __init__(self, book, ways):
        check_ways(book, ways)
        self._book = book
        self._ways = copied(ways)

    def states(self):
        """Return the number of states."""
        return len(self._ways)

    def ways(self, state):
        """Return the list of the ways of a state."""
        if not is_index(state, len(self._ways)):
            raise NoState()
        return list(self._ways[state])

    def behind(self, state, classes):
        """Return the ascending list of the states to which ways with these classes lead from a state."""
        if not is_index(state, len(self._ways)):
            raise NoState()
        if not isinstance(classes, list) or not all([is_class(cls, len(self._book)) for cls in classes]):
            raise NoClasses()
        present = [state]
        for cls in classes:
            present = self._led(present, cls)
        return present

    def _led(self, present, cls):
        """Return the states to which ways with a class lead from some states."""
        return [
            other for other in range(len(self._ways))
            if any([(cls, other) in self._ways[one] for one in present])
        ]

    def __eq__(self, other):
        return isinstance(other, Sender) and self._book == other._book and self._ways == other._ways


def free(book):
    """Return the sender with one state and one way for each class that has a run."""
    return Sender(book, [[(cls, 0) for cls in classes_with_runs(book)]])
