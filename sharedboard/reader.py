"""Reading the lines of the text of a book."""

from sharedboard.books import MOST_CELLS, MOST_PROCEDURES, Book
from sharedboard.errors import NoText
from sharedboard.statements import LAST_LEVEL, LIST_LIMIT, PROCEDURE_LIMIT, ROW_LIMIT, is_statement

# The line ahead of each block of a statement; "" for no line.
DIVIDERS = {"keep": ("",), "again": ("",), "either": ("", "or"), "call": ("way 0", "way 1")}


def indent_of(level):
    """Return the spaces ahead of the lines of a list of statements at a level."""
    return " " * (2 * level + 2)


def number_of(word):
    """Return the integer that a word writes, or None; all integers of a text lie within the limits of a row."""
    for number in range(-ROW_LIMIT, ROW_LIMIT + 1):
        if word == str(number):
            return number
    return None


def statement_of(word, numbers, blocks):
    """Return the statement of a line; what a wrong line gives is no statement."""
    if word == "set":
        return (word, *numbers[:1], numbers[1:])
    if word == "carry":
        return (word, numbers)
    if word == "keep":
        return (word, numbers, *blocks)
    if word == "call":
        return (word, *numbers[:1], numbers[1:], blocks)
    return (word, *numbers, *blocks)


class Reader:
    """Reads lines one after another.

    Every start of a text that it has read without an error can be completed: so the line at which it stops is the
    first wrong one.
    """

    def __init__(self, lines):
        self._lines = lines
        self._at = 0
        self._cells = 0
        # How many statements the present procedure has, and how many procedures the calls ask for.
        self._statements = 0
        self._needed = 1

    def _expect(self, line):
        """Read a certain line."""
        if self._at == len(self._lines) or self._lines[self._at] != line:
            raise NoText(self._at)
        self._at = self._at + 1

    def _read_cells(self):
        """Read the first line, which tells the number of cells."""
        for cells in range(1, MOST_CELLS + 1):
            if self._lines[0] == f"cells {cells}":
                self._at = 1
                return cells
        raise NoText(0)

    def book(self):
        """Return the book that all the lines together write."""
        self._cells = self._read_cells()
        bodies = []
        while self._at < len(self._lines) or len(bodies) < self._needed:
            if len(bodies) == MOST_PROCEDURES:
                raise NoText(self._at)
            self._expect(f"to {len(bodies)}")
            self._statements = 0
            bodies.append(self._block(0))
        return Book(self._cells, bodies)

    def _block(self, level):
        """Read the lines of a list of statements; it ends ahead of a line with fewer spaces."""
        block = []
        while self._at < len(self._lines) and self._lines[self._at].startswith(indent_of(level)):
            if len(block) == LIST_LIMIT or self._statements == PROCEDURE_LIMIT:
                raise NoText(self._at)
            block.append(self._statement(level))
        return block

    def _statement(self, level):
        """Read the lines of a statement."""
        words = self._lines[self._at][len(indent_of(level)):].split(" ")
        numbers = [number_of(word) for word in words[1:]]
        dividers = DIVIDERS.get(words[0], ())
        found = statement_of(words[0], numbers, [[] for _ in dividers])
        if not is_statement(found, self._cells, MOST_PROCEDURES) or (dividers and level == LAST_LEVEL):
            raise NoText(self._at)
        self._at = self._at + 1
        self._statements = self._statements + 1
        if words[0] == "call":
            self._needed = max(self._needed, numbers[0] + 1)
        blocks = []
        for divider in dividers:
            if divider:
                self._expect(indent_of(level) + divider)
            blocks.append(self._block(level + 1))
        return statement_of(words[0], numbers, blocks)
