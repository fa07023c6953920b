"""The errors of the program; all stand directly under BoardError."""

from sharedboard.kinds import copied


class BoardError(ValueError):
    """What all errors of the program stand under."""


class NoCells(BoardError):
    """A number of cells is no integer from 1 to 3."""


class NoProcedure(BoardError):
    """A value is not the index of a procedure of the book."""


class NoPath(BoardError):
    """A value is not the path of a statement of the procedure."""


class NoBoard(BoardError):
    """A value is not a board of the book."""


class NoNumber(BoardError):
    """A value is not an integer."""


class NoDeed(BoardError):
    """A value is not a deed of the book."""


class NoWidth(BoardError):
    """The width of a space is no integer from 1 to 49."""


class NoTable(BoardError):
    """A value is not a table of the book."""


class NoClass(BoardError):
    """A value is not a class of the book."""


class NoState(BoardError):
    """A value is not a state of the sender."""


class NoClasses(BoardError):
    """A value is not a list of classes of the book."""


class NoClaims(BoardError):
    """A value is not a list of claims for each state."""


class NoOrder(BoardError):
    """A value is not an order."""


class NoFault(BoardError):
    """A value is not the name of a fault."""


class NoMany(BoardError):
    """A number is outside of its limits."""


class NoList(BoardError):
    """A value is not an ascending list of cells of the book."""


class NoIndex(BoardError):
    """A value is not an index of the list."""


class NoDeeds(BoardError):
    """A value is not a list of deeds of the right length."""


class NotLet(BoardError):
    """The log with the deed is not let."""


class NoReplica(BoardError):
    """A value is not the index of a replica."""


class Held(BoardError):
    """A deed ahead in the mail must stay ahead."""


class NoBook(BoardError):
    """The bodies of a book have a fault, at this procedure and path."""

    def __init__(self, procedure, path):
        self.procedure = copied(procedure)
        self.path = copied(path)


class NoRun(BoardError):
    """A value is not a run; the index tells where."""

    def __init__(self, index):
        self.index = copied(index)


class NoHistory(BoardError):
    """A value is not a history; the index tells the first item that is no deed."""

    def __init__(self, index):
        self.index = copied(index)


class NoVectors(BoardError):
    """A value is not a list of vectors; the index tells the first item that is none."""

    def __init__(self, index):
        self.index = copied(index)


class NoEquations(BoardError):
    """A value is not a list of equations; the index tells the first item that is none."""

    def __init__(self, index):
        self.index = copied(index)


class NoEquation(BoardError):
    """A value is not an equation of the book; the place tells which part is wrong."""

    def __init__(self, place):
        self.place = copied(place)


class NoSender(BoardError):
    """The ways of a sender have a fault, at this state."""

    def __init__(self, state):
        self.state = copied(state)


class TooMany(BoardError):
    """There are more than may be; many tells how many."""

    def __init__(self, many):
        self.many = copied(many)


class NoText(BoardError):
    """A text is not the text of a book; the line tells where."""

    def __init__(self, line):
        self.line = copied(line)
