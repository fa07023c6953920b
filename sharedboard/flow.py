"""The points between the statements of a book, and how executions pass from point to point."""

from sharedboard.effects import called_matrix, command_matrix, kept_matrix
from sharedboard.kinds import class_list

NO_BIT = -1


class Flow:
    """The points of all parts of a book, with moves and joins.

    A part is a body or the block of a keep; each execution of it begins anew at its start.
    A move (target, matrix, bit, cost) leads on from a point: by a command, by a bit, or by nothing at all.
    A join (source, inner, target, word, told) leads on from its source by a whole execution of another part,
    up to the point inner; the word and what is told of a keep or a call change the matrix of that part.
    Leaving and entering have, for each point, the joins whose source or inner point it is.
    """

    def __init__(self, book):
        self.run_width = book.cells() + 2
        self.moves = []
        self.joins = []
        self.starts = []
        bodies = book.bodies()
        self.ends = {cls: self._point() for cls in class_list(len(bodies))}
        for procedure, body in enumerate(bodies):
            first, second = self.ends[procedure, 0], self.ends[procedure, 1]
            self._part(body, first, [first, second])
        self.leaving = [[] for _ in self.moves]
        self.entering = [[] for _ in self.moves]
        for join, (source, inner, _, _, _) in enumerate(self.joins):
            self.leaving[source].append(join)
            self.entering[inner].append(join)

    def _point(self):
        """Make a point and return its number."""
        self.moves.append([])
        return len(self.moves) - 1

    def _move(self, source, target, bit):
        """Add a move that executes no command."""
        self.moves[source].append((target, None, bit, 0))

    def _part(self, block, target, ends):
        """Add a part; its ends in the two ways lead to points of their own."""
        start = self._point()
        self.starts.append(start)
        self._wire(block, start, target, ends)

    def _branch(self, block, source, bit, target, ends):
        """Add a block that is executed from a point if a bit is taken."""
        start = self._point()
        self._move(source, start, bit)
        self._wire(block, start, target, ends)

    def _wire(self, block, source, target, ends):
        """Lead from a point through a list of statements to another point."""
        if not block:
            self._move(source, target, NO_BIT)
            return
        here = source
        for statement in block[:-1]:
            there = self._point()
            self._pass(statement, here, there, ends)
            here = there
        self._pass(block[-1], here, target, ends)

    def _pass(self, statement, source, target, ends):
        """Lead from the point ahead of a statement to the point behind it."""
        word = statement[0]
        if word == "either":
            self._branch(statement[1], source, 0, target, ends)
            self._branch(statement[2], source, 1, target, ends)
        elif word == "again":
            self._move(source, target, 0)
            self._branch(statement[1], source, 1, source, ends)
        elif word == "keep":
            self._keep(statement, source, target, ends)
        elif word == "call":
            self._call(statement, source, target, ends)
        elif word == "end":
            self._move(source, ends[statement[1]], NO_BIT)
        else:
            self.moves[source].append((target, command_matrix(self.run_width, statement), NO_BIT, 1))

    def _keep(self, statement, source, target, ends):
        """Make the block of a keep a part; behind it the keep puts back, however the block is left."""
        inner = [self._point(), self._point(), self._point()]
        self._part(statement[2], inner[2], inner[:2])
        for point, behind in zip(inner, [*ends, target]):
            self.joins.append((source, point, behind, "keep", statement[1]))

    def _call(self, statement, source, target, ends):
        """Lead through a call: behind each way of the called procedure stands a block."""
        for way in (0, 1):
            start = self._point()
            self.joins.append((source, self.ends[statement[1], way], start, "call", statement[2]))
            self._wire(statement[3][way], start, target, ends)


def joined_matrix(width, word, told, matrix):
    """Return what a keep or a call makes of the matrix of the part that it executes."""
    if word == "keep":
        return kept_matrix(width, told, matrix)
    return called_matrix(width, told, matrix)


def reached_points(flow):
    """Return a dict whose keys are the points that executions reach."""
    reached = {start: True for start in flow.starts}
    many = 0
    while many < len(reached):
        many = len(reached)
        for source in list(reached):
            for move in flow.moves[source]:
                reached[move[0]] = True
        for source, inner, target, _, _ in flow.joins:
            if source in reached and inner in reached:
                reached[target] = True
    return reached


def classes_with_runs(book):
    """Return the ascending list of the classes of a book that have a run."""
    flow = Flow(book)
    reached = reached_points(flow)
    return [cls for cls in class_list(len(book)) if flow.ends[cls] in reached]
