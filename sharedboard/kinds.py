"""Kinds of values that many points name, and copies of values."""


def is_integer(value):
    """Tell whether a value is an integer; True and False are none."""
    return isinstance(value, int) and not isinstance(value, bool)


def is_between(value, low, high):
    """Tell whether a value is an integer from low to high."""
    return is_integer(value) and low <= value <= high


def is_bit(value):
    """Tell whether a value is the integer 0 or 1."""
    return is_between(value, 0, 1)


def is_index(value, many):
    """Tell whether a value is an index of a list with that many items."""
    return is_between(value, 0, many - 1)


def is_cell_list(value, cells):
    """Tell whether a value is an ascending list of cells, each at most once."""
    if not isinstance(value, list):
        return False
    if not all([is_index(cell, cells) for cell in value]):
        return False
    return all([one < other for one, other in zip(value, value[1:])])


def is_integer_list(value, many):
    """Tell whether a value is a list of that many integers."""
    return isinstance(value, list) and len(value) == many and all([is_integer(item) for item in value])


def is_board(value, cells):
    """Tell whether a value is a board of that many cells."""
    return isinstance(value, tuple) and len(value) == cells and all([is_integer(item) for item in value])


def class_list(procedures):
    """Return the ascending list of the classes of a book with that many procedures."""
    return [(procedure, way) for procedure in range(procedures) for way in (0, 1)]


def is_class(value, procedures):
    """Tell whether a value is a class of a book with that many procedures."""
    return isinstance(value, tuple) and len(value) == 2 and is_index(value[0], procedures) and is_bit(value[1])


def copied(value):
    """Return an equal value in which each list and dict is new."""
    if isinstance(value, list):
        return [copied(item) for item in value]
    if isinstance(value, tuple):
        return tuple([copied(item) for item in value])
    if isinstance(value, dict):
        return {key: copied(worth) for key, worth in value.items()}
    return value
