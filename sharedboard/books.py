"""Books: lists of procedures that change a board."""

from sharedboard.errors import NoBook, NoCells, NoPath, NoProcedure
from sharedboard.statements import first_fault, places
from sharedboard.kinds import copied, is_between, is_index, is_integer

MOST_CELLS = 3
MOST_PROCEDURES = 3


def check_bodies(cells, bodies):
    """Raise NoBook for the first fault of the bodies of a book."""
    if not isinstance(bodies, list) or not 1 <= len(bodies) <= MOST_PROCEDURES:
        raise NoBook(-1, ())
    for procedure, body in enumerate(bodies):
        if not isinstance(body, list):
            raise NoBook(procedure, ())
        path = first_fault(body, cells, len(bodies))
        if path is not None:
            raise NoBook(procedure, path)


def statement_at(body, path):
    """Return the statement at a path of a body, or None."""
    # A flag equals an integer, so the kinds are asked ahead of the comparison.
    if not isinstance(path, tuple) or not all([is_integer(step) for step in path]):
        return None
    for place, statement in places(body):
        if place == path:
            return statement
    return None


class Book:
    """A list of procedures over one to three cells; it does not change."""

    def __init__(self, cells, bodies):
        if not is_between(cells, 1, MOST_CELLS):
            raise NoCells()
        check_bodies(cells, bodies)
        self._cells = cells
        self._bodies = copied(bodies)

    def cells(self):
        """Return the number of cells."""
        return self._cells

    def bodies(self):
        """Return the list of the bodies of the procedures."""
        return copied(self._bodies)

    def calls(self):
        """Return the tuples (procedure, path) of all call statements, in reading order."""
        return [
            (procedure, path)
            for procedure, body in enumerate(self._bodies)
            for path, statement in places(body)
            if statement[0] == "call"
        ]

    def __len__(self):
        return len(self._bodies)

    def __getitem__(self, at):
        procedure, path = at
        if not is_index(procedure, len(self._bodies)):
            raise NoProcedure()
        statement = statement_at(self._bodies[procedure], path)
        if statement is None:
            raise NoPath()
        return copied(statement)

    def __iter__(self):
        raise TypeError("a book is not iterated over")

    def __eq__(self, other):
        return isinstance(other, Book) and self._cells == other._cells and self._bodies == other._bodies
