"""A second, plain reading of the document that the tests compare the program with.

It is slow and small: executions are recursive, spaces are lists of rows of fractions, runs are tried one by one.
"""

import random
from fractions import Fraction


class NotEnough(Exception):
    """The execution needs a further bit."""


class ForEver(Exception):
    """A procedure is called again without a bit."""


class Stopped(Exception):
    """The execution went beyond a limit of the test."""


class Ended(Exception):
    def __init__(self, way):
        Exception.__init__(self)
        self.way = way


class Machine:
    """Executes by the words of point 14; `limit` bounds the commands."""

    def __init__(self, cells, bodies, bits, board, n, limit=100000):
        self.cells, self.bodies, self.bits, self.limit = cells, bodies, bits, limit
        self.board, self.n = list(board), n
        self.taken = 0
        self.length = 0
        self.going = []

    def value(self, row):
        return row[0] + sum(f * x for f, x in zip(row[1:-1], self.board)) + row[-1] * self.n

    def bit(self):
        if self.taken == len(self.bits):
            raise NotEnough()
        self.taken += 1
        return self.bits[self.taken - 1]

    def procedure(self, index):
        if (index, self.taken) in self.going:
            raise ForEver()
        self.going.append((index, self.taken))
        try:
            self.block(self.bodies[index])
            way = 0
        except Ended as end:
            way = end.way
        self.going.pop()
        return way

    def block(self, block):
        for statement in block:
            getattr(self, "do_" + statement[0])(*statement[1:])

    def count(self):
        self.length += 1
        if self.length > self.limit:
            raise Stopped()

    def do_set(self, cell, row):
        self.count()
        self.board[cell] = self.value(row)

    def do_carry(self, row):
        self.count()
        self.n = self.value(row)

    def do_keep(self, cells, block):
        n, kept = self.n, [self.board[cell] for cell in cells]
        try:
            self.block(block)
        finally:
            self.n = n
            for cell, number in zip(cells, kept):
                self.board[cell] = number

    def do_either(self, first, second):
        self.block([first, second][self.bit()])

    def do_again(self, block):
        while self.bit() == 1:
            self.block(block)

    def do_call(self, procedure, row, blocks):
        n = self.n
        self.n = self.value(row)
        way = self.procedure(procedure)
        self.n = n
        self.block(blocks[way])

    def do_end(self, way):
        raise Ended(way)


def executed(cells, bodies, procedure, bits, board=None, n=0, limit=100000):
    """Return (way, board, n, length), or the number of point 17 for a list of bits that is no run."""
    machine = Machine(cells, bodies, bits, board or (0,) * cells, n, limit)
    try:
        way = machine.procedure(procedure)
    except ForEver:
        return -2
    except NotEnough:
        return len(bits)
    if machine.taken < len(bits):
        return machine.taken
    return way, tuple(machine.board), machine.n, machine.length


def matrix_of(cells, bodies, procedure, bits):
    """Return the run matrix of a run, column by column, from what it does to run vectors."""
    width = cells + 2
    columns = []
    for vector in [[0] * width] + [[1 if k == j else 0 for k in range(width)] for j in range(1, width)]:
        _, board, n, _ = executed(cells, bodies, procedure, bits, tuple(vector[1:-1]), vector[-1])
        columns.append([1, *board, n])
    for column in columns[1:]:
        column[:] = [a - b for a, b in zip(column, columns[0])]
    return [column[row] for row in range(width) for column in columns]


def all_runs(cells, bodies, procedure, most_bits, most_commands):
    """Return (bits, way, length) of all runs with few bits and few commands, shortest lists of bits first."""
    found, waiting = [], [[]]
    while waiting:
        bits = waiting.pop(0)
        try:
            told = executed(cells, bodies, procedure, bits, limit=most_commands)
        except Stopped:
            continue
        if told == len(bits):
            if len(bits) < most_bits:
                waiting += [[*bits, 0], [*bits, 1]]
        elif isinstance(told, tuple):
            found.append((bits, told[0], told[3]))
    return found


def random_bits(source, cells, bodies, procedure):
    """Return a list of bits that often is a run: it grows while the execution needs more."""
    bits = []
    while len(bits) < 10 and executed(cells, bodies, procedure, bits) == len(bits) and source.random() < 0.97:
        bits.append(source.randint(0, 1))
    if source.random() < 0.2:
        bits.append(source.randint(0, 1))
    return bits


def reduced(vectors):
    """Return the reduced rows of fractions of a list of vectors."""
    rows = []
    for vector in vectors:
        rest = [Fraction(number) for number in vector]
        for pivot, row in rows:
            if rest[pivot]:
                factor = rest[pivot]
                rest = [a - factor * b for a, b in zip(rest, row)]
        if not any(rest):
            continue
        pivot = next(k for k, number in enumerate(rest) if number)
        rest = [number / rest[pivot] for number in rest]
        rows = [(place, [a - row[pivot] * b for a, b in zip(row, rest)]) for place, row in rows]
        rows.append((pivot, rest))
    return [row for _, row in sorted(rows)]


def rank(vectors):
    return len(reduced(vectors))


def canonical(vectors):
    """Return the canonical basis by the words of point 19."""
    found = []
    for row in reduced(vectors):
        scale = 1
        for number in row:
            scale = scale * number.denominator // _gcd(scale, number.denominator)
        whole = [int(number * scale) for number in row]
        divisor = 0
        for number in whole:
            divisor = _gcd(divisor, number)
        found.append([number // divisor for number in whole])
    return found


def _gcd(one, other):
    while other:
        one, other = other, one % other
    return abs(one)


def times(width, one, other):
    """Return the matrix of "one, then other"."""
    return [
        sum(other[width * i + k] * one[width * k + j] for k in range(width))
        for i in range(width) for j in range(width)
    ]


def identity(width):
    return [int(i == j) for i in range(width) for j in range(width)]


def deed_matrix(cells, bodies, deed):
    """Return the board matrix of a deed from what it does to boards."""
    procedure, bits, n = deed
    columns = []
    for j in range(cells + 1):
        board = tuple(int(k + 1 == j) for k in range(cells))
        columns.append([1, *executed(cells, bodies, procedure, bits, board, n)[1]])
    for column in columns[1:]:
        column[:] = [a - b for a, b in zip(column, columns[0])]
    return [column[row] for row in range(cells + 1) for column in columns]


def random_row(source, cells, size):
    return [source.choice([0, 0, 1, -1, source.randint(-size, size)]) for _ in range(cells + 2)]


def random_block(source, cells, procedures, level, budget, size):
    """Return a random block; budget is a list of one number, how many statements may still be used."""
    block = []
    for _ in range(source.randint(0, 4 if level == 0 else 3)):
        if budget[0] == 0 or len(block) == 8:
            break
        budget[0] -= 1
        words = ["set", "set", "carry", "end"]
        if level < 3:
            words += ["keep", "either", "either", "again", "call", "call"]
        word = source.choice(words)

        def inner():
            return random_block(source, cells, procedures, level + 1, budget, size)

        if word == "set":
            block.append(("set", source.randrange(cells), random_row(source, cells, size)))
        elif word == "carry":
            block.append(("carry", random_row(source, cells, size)))
        elif word == "end":
            block.append(("end", source.randint(0, 1)))
        elif word == "keep":
            kept = sorted(source.sample(range(cells), source.randint(0, cells)))
            block.append(("keep", kept, inner()))
        elif word == "either":
            block.append(("either", inner(), inner()))
        elif word == "again":
            block.append(("again", inner()))
        else:
            target = source.randrange(procedures)
            block.append(("call", target, random_row(source, cells, size), [inner(), inner()]))
    return block


def random_bodies(seed, cells, procedures, size=3):
    source = random.Random(seed)
    return [random_block(source, cells, procedures, 0, [12], size) for _ in range(procedures)]


def products(width, one, other):
    return canonical([times(width, a, b) for a in one for b in other])


def kept(width, cells, matrix):
    """Return the kept matrix of a list of cells by the words of point 18."""
    rows = [list(matrix[width * i:width * i + width]) for i in range(width)]
    for place in [*[cell + 1 for cell in cells], width - 1]:
        rows[place] = [matrix[0] * int(place == j) for j in range(width)]
    return [number for row in rows for number in row]


def command(width, statement):
    rows = [[int(i == j) for j in range(width)] for i in range(width)]
    rows[statement[1] + 1 if statement[0] == "set" else width - 1] = list(statement[-1])
    return [number for row in rows for number in row]


def list_spaces(width, table, block):
    """Return the spaces of a list by the words of point 23: ending in 0, ending in 1, passing through."""
    if not block:
        return [[], [], [identity(width)]]
    ahead = list_spaces(width, table, block[:-1])
    last = statement_spaces(width, table, block[-1])
    ends = [canonical(ahead[way] + products(width, ahead[2], last[way])) for way in (0, 1)]
    return [*ends, products(width, ahead[2], last[2])]


def statement_spaces(width, table, statement):
    word = statement[0]
    if word == "keep":
        return [canonical([kept(width, statement[1], m) for m in space])
                for space in list_spaces(width, table, statement[2])]
    if word == "either":
        both = zip(list_spaces(width, table, statement[1]), list_spaces(width, table, statement[2]))
        return [canonical(one + other) for one, other in both]
    if word == "again":
        block = list_spaces(width, table, statement[1])
        rounds, more = [], [identity(width)]
        while len(more) > len(rounds):
            rounds = more
            more = canonical(rounds + products(width, rounds, block[2]))
        return [products(width, rounds, block[0]), products(width, rounds, block[1]), rounds]
    if word == "call":
        _, procedure, row, blocks = statement
        found = [[], [], []]
        for way in (0, 1):
            first = command(width, ("carry", row))
            called = [kept(width, [], times(width, first, m)) for m in table[procedure, way]]
            for at, space in enumerate(list_spaces(width, table, blocks[way])):
                found[at] = found[at] + products(width, called, space)
        return [canonical(space) for space in found]
    if word == "end":
        return [[identity(width)] if way == statement[1] else [] for way in (0, 1)] + [[]]
    return [[], [], [command(width, statement)]]


def body_spaces(width, table, body):
    """Return the body spaces of both classes, for a table of lists of matrices."""
    first, second, through = list_spaces(width, table, body)
    return [canonical(first + through), canonical(second)]


def whole_table(width, bodies):
    """Return the table of all runs: the body spaces of the zero table, again and again."""
    table = {(p, way): [] for p in range(len(bodies)) for way in (0, 1)}
    size = -1
    while size < sum(len(space) for space in table.values()):
        size = sum(len(space) for space in table.values())
        found = [body_spaces(width, table, body) for body in bodies]
        table = {(p, way): canonical(table[p, way] + found[p][way]) for p, way in table}
    return table
