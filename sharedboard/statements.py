"""Statements of procedures: their form, their blocks and their places."""

from sharedboard.kinds import is_between, is_bit, is_cell_list, is_index

LIST_LIMIT = 8
PROCEDURE_LIMIT = 12
LAST_LEVEL = 3
ROW_LIMIT = 9

# How many items the tuple of each kind of statement has, its word included.
SIZES = {"set": 3, "carry": 2, "keep": 3, "either": 3, "again": 2, "call": 4, "end": 2}


def is_row(value, cells):
    """Tell whether a value is a row of a book with that many cells."""
    if not isinstance(value, list) or len(value) != cells + 2:
        return False
    return all([is_between(item, -ROW_LIMIT, ROW_LIMIT) for item in value])


def is_block_pair(value):
    """Tell whether a value is a list of two lists."""
    if not isinstance(value, list) or len(value) != 2:
        return False
    return isinstance(value[0], list) and isinstance(value[1], list)


def is_sized(value):
    """Tell whether a value is a tuple with the word and the size of a statement."""
    if not isinstance(value, tuple) or not value:
        return False
    # Only strings are looked up: a list would be no key of a dict.
    if not isinstance(value[0], str) or value[0] not in SIZES:
        return False
    return len(value) == SIZES[value[0]]


def is_statement(value, cells, procedures):
    """Tell whether a value is a statement; its level and what stands in its blocks are not asked."""
    if not is_sized(value):
        return False
    word = value[0]
    if word == "set":
        return is_index(value[1], cells) and is_row(value[2], cells)
    if word == "carry":
        return is_row(value[1], cells)
    if word == "keep":
        return is_cell_list(value[1], cells) and isinstance(value[2], list)
    if word == "either":
        return isinstance(value[1], list) and isinstance(value[2], list)
    if word == "again":
        return isinstance(value[1], list)
    if word == "call":
        return is_index(value[1], procedures) and is_row(value[2], cells) and is_block_pair(value[3])
    return is_bit(value[1])


def blocks_of(statement):
    """Return the list of the blocks of a statement, in the order of their numbers."""
    word = statement[0]
    if word == "keep":
        return [statement[2]]
    if word == "either":
        return [statement[1], statement[2]]
    if word == "again":
        return [statement[1]]
    if word == "call":
        return [statement[3][0], statement[3][1]]
    return []


def places(body):
    """Return the tuples (path, statement) of a list of statements, in reading order."""
    rows = []
    for index, statement in enumerate(body):
        rows.append(((index,), statement))
        for number, block in enumerate(blocks_of(statement)):
            for path, inner in places(block):
                rows.append(((index, number, *path), inner))
    return rows


def entries(block, path):
    """Return the tuples (path, item) of a block that has a path, its last item first."""
    return [((*path, index), block[index]) for index in reversed(range(len(block)))]


def fits(value, path, cells, procedures):
    """Tell whether a value may stand at a path of a body."""
    if path[-1] >= LIST_LIMIT or not is_statement(value, cells, procedures):
        return False
    # Each level around a statement adds two numbers to its path.
    level = len(path) // 2
    return level < LAST_LEVEL or not blocks_of(value)


def first_fault(body, cells, procedures):
    """Return the path of the first fault in a list, in reading order, or None."""
    # One list may stand at very many places, so nothing behind the fault is read.
    waiting = entries(body, ())
    many = 0
    while waiting:
        path, value = waiting.pop()
        many = many + 1
        if many > PROCEDURE_LIMIT or not fits(value, path, cells, procedures):
            return path
        blocks = blocks_of(value)
        for number in reversed(range(len(blocks))):
            waiting.extend(entries(blocks[number], (*path, number)))
    return None
