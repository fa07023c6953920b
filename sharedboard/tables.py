"""Tables: the spaces of the run matrices of all runs, class by class."""

from sharedboard.effects import called_matrix, command_matrix, kept_matrix
from sharedboard.errors import NoClass, NoTable
from sharedboard.kinds import class_list, is_class
from sharedboard.least import least_runs
from sharedboard.matrices import identity
from sharedboard.spaces import Space, product


def run_spaces(book, least):
    """Return the dict of the run spaces that least runs tell."""
    size = (book.cells() + 2) * (book.cells() + 2)
    return {cls: Space(size, least.basis(cls)) for cls in class_list(len(book))}


def table(book):
    """Return the dict of the run spaces of all classes of a book."""
    return run_spaces(book, least_runs(book))


def is_table(book, thing):
    """Tell whether a thing is a dict with exactly the classes of a book and a space of run matrices for each."""
    classes = class_list(len(book))
    if not isinstance(thing, dict) or len(thing) != len(classes):
        return False
    size = (book.cells() + 2) * (book.cells() + 2)
    for cls in classes:
        if cls not in thing or not isinstance(thing[cls], Space) or thing[cls].width() != size:
            return False
    return True


class Reading:
    """The spaces of the statements of a book, read with a table.

    What a statement or a list has is a list of three spaces: ending in way 0, ending in way 1, passing through.
    """

    def __init__(self, book, spaces):
        self._width = book.cells() + 2
        self._spaces = spaces
        self._zero = self._of([])
        self._still = self._of([identity(self._width)])

    def _of(self, matrices):
        return Space(self._width * self._width, matrices)

    def _times(self, one, other):
        return product(self._width, one, other)

    def _behind(self, space, three):
        """Return what three spaces become behind a space."""
        return [self._times(space, other) for other in three]

    def of_list(self, block):
        """Return the three spaces of a list of statements."""
        ends = [self._zero, self._zero]
        through = self._still
        for statement in block:
            first, second, passing = self._behind(through, self._of_statement(statement))
            ends = [ends[0] + first, ends[1] + second]
            through = passing
        return [*ends, through]

    def _of_statement(self, statement):
        """Return the three spaces of a statement."""
        word = statement[0]
        if word == "keep":
            return [self._kept(statement[1], space) for space in self.of_list(statement[2])]
        if word == "either":
            return sums(self.of_list(statement[1]), self.of_list(statement[2]))
        if word == "again":
            return self._of_loop(statement[1])
        if word == "call":
            return self._of_call(statement)
        if word == "end":
            return [self._still if way == statement[1] else self._zero for way in (0, 1)] + [self._zero]
        return [self._zero, self._zero, self._of([command_matrix(self._width, statement)])]

    def _kept(self, cells, space):
        """Return the space of the kept matrices of a space."""
        return self._of([kept_matrix(self._width, cells, matrix) for matrix in space.basis()])

    def _of_loop(self, block):
        """Return the three spaces of a block that is done again."""
        first, second, passing = self.of_list(block)
        rounds = self._still
        more = rounds + self._times(rounds, passing)
        while len(more) > len(rounds):
            rounds = more
            more = rounds + self._times(rounds, passing)
        return [*self._behind(rounds, [first, second]), rounds]

    def _of_call(self, statement):
        """Return the three spaces of a call."""
        _, procedure, row, blocks = statement
        parts = []
        for way in (0, 1):
            matrices = self._spaces[procedure, way].basis()
            called = self._of([called_matrix(self._width, row, matrix) for matrix in matrices])
            parts.append(self._behind(called, self.of_list(blocks[way])))
        return sums(parts[0], parts[1])


def sums(one, other):
    """Return the sums of the spaces of two lists, one by one."""
    return [first + second for first, second in zip(one, other)]


def body_spaces(book, spaces, procedure):
    """Return the list of the body spaces of both classes of a procedure, read with a table."""
    first, second, passing = Reading(book, spaces).of_list(book.bodies()[procedure])
    return [passing + first, second]


def body_space(book, table, cls):
    """Return the body space of a class, read with a table."""
    if not is_table(book, table):
        raise NoTable()
    if not is_class(cls, len(book)):
        raise NoClass()
    return body_spaces(book, table, cls[0])[cls[1]]


def table_fault(book, thing):
    """Return the first fault of a thing as a closed table of a book, or None."""
    if not is_table(book, thing):
        return ("form",)
    for procedure in range(len(book)):
        found = body_spaces(book, thing, procedure)
        for way in (0, 1):
            if not found[way].within(thing[procedure, way]):
                return ("closed", procedure, way)
    return None
