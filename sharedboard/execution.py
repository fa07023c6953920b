"""Executing lists of bits: which steps are done, in which order, whatever board and n are."""

from sharedboard.errors import NoRun
from sharedboard.kinds import is_bit

# Steps act on the places of a run vector [1, cells.., n]:
#   ("put", place, row)  the number at the place becomes the value of the row;
#   ("save", places)     the numbers at the places are noted;
#   ("back",)            the numbers that were noted last become what they were.


class Frame:
    """A block whose statements are being executed; told is what its end needs."""

    def __init__(self, word, block, told):
        self.word = word
        self.block = block
        self.told = told
        self.at = 0


class Execution:
    """The execution of a procedure with a list of bits; it keeps a stack of its own, so depth has no limit."""

    def __init__(self, book, procedure, bits):
        self._bodies = book.bodies()
        self._last = book.cells() + 1
        self._bits = bits
        self._taken = 0
        self._frames = []
        # For each procedure: how many bits had been taken when its calls that still go on began.
        self._begun = [[] for _ in self._bodies]
        self.steps = []
        self.length = 0
        self.way = 0
        self._begin(procedure, [])
        while self._frames:
            self._advance()
        if self._taken < len(bits):
            raise NoRun(self._taken)

    def _bit(self):
        """Take a bit."""
        if self._taken == len(self._bits):
            raise NoRun(len(self._bits))
        self._taken = self._taken + 1
        return self._bits[self._taken - 1]

    def _open(self, word, block, told):
        self._frames.append(Frame(word, block, told))

    def _begin(self, procedure, blocks):
        """Begin a call of a procedure behind which one of the blocks is executed."""
        begun = self._begun[procedure]
        # A call inside of a call of the same procedure, without a bit between, comes again for ever.
        if begun and begun[-1] == self._taken:
            raise NoRun(-2)
        begun.append(self._taken)
        self._open("body", self._bodies[procedure], (procedure, blocks))

    def _advance(self):
        """Execute the next statement of the innermost block, or leave the block."""
        frame = self._frames[-1]
        if frame.at == len(frame.block):
            self._leave(frame)
            return
        frame.at = frame.at + 1
        self._execute(frame.block[frame.at - 1])

    def _execute(self, statement):
        """Begin a statement."""
        word = statement[0]
        if word == "set":
            self._command(statement[1] + 1, statement[2])
        elif word == "carry":
            self._command(self._last, statement[1])
        elif word == "keep":
            self.steps.append(("save", [*[cell + 1 for cell in statement[1]], self._last]))
            self._open("keep", statement[2], None)
        elif word == "either":
            self._open("block", statement[1 + self._bit()], None)
        elif word == "again":
            self._open("again", statement[1], None)
            self._frames[-1].at = len(statement[1])
        elif word == "call":
            self.steps.append(("save", [self._last]))
            self.steps.append(("put", self._last, statement[2]))
            self._begin(statement[1], statement[3])
        else:
            self._end(statement[1])

    def _command(self, place, row):
        self.steps.append(("put", place, row))
        self.length = self.length + 1

    def _leave(self, frame):
        """Do what comes behind the last statement of a block."""
        if frame.word == "body":
            self._end(0)
        elif frame.word == "again" and self._bit() == 1:
            frame.at = 0
        else:
            self._close()

    def _close(self):
        """Take the innermost frame away and return it; what a keep keeps is put back."""
        frame = self._frames.pop()
        if frame.word == "keep":
            self.steps.append(("back",))
        return frame

    def _end(self, way):
        """End the innermost procedure in a way."""
        frame = self._close()
        while frame.word != "body":
            frame = self._close()
        procedure, blocks = frame.told
        self._begun[procedure].pop()
        if not self._frames:
            self.way = way
            return
        self.steps.append(("back",))
        self._open("block", blocks[way], None)


def check_bits(bits):
    """Raise NoRun for what is no list of bits."""
    if not isinstance(bits, list):
        raise NoRun(-1)
    for index, bit in enumerate(bits):
        if not is_bit(bit):
            raise NoRun(index)


def executed(book, procedure, bits):
    """Return the execution of a run; raise NoRun for a list that is none."""
    check_bits(bits)
    return Execution(book, procedure, bits)


def behind(steps, vector):
    """Return what steps make of a vector with the places of a run vector; its number 0 need not be 1."""
    numbers = list(vector)
    saved = []
    for step in steps:
        if step[0] == "put":
            numbers[step[1]] = sum([factor * number for factor, number in zip(step[2], numbers)])
        elif step[0] == "save":
            saved.append([(place, numbers[place]) for place in step[1]])
        else:
            noted = saved.pop()
            for place, number in noted:
                numbers[place] = number
    return numbers
