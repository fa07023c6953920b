"""Helpers of the tests of equations: sides done on boards, and all short deeds."""

import random

import reference


def side_done(cells, bodies, side, deeds, board):
    """Return the board behind a side, its deeds done one by one."""
    for index in side:
        procedure, bits, n = deeds[index]
        board = reference.executed(cells, bodies, procedure, bits, board, n)[1]
    return board


def differ(cells, bodies, equation, deeds, board):
    """Tell whether the sides of an equation leave different values from a board."""
    _, left, right, asked = equation
    one = side_done(cells, bodies, left, deeds, board)
    other = side_done(cells, bodies, right, deeds, board)
    return any(one[cell] != other[cell] for cell in asked)


def corners(cells):
    """Return boards that tell affine maps apart."""
    return [(0,) * cells] + [tuple(int(k == j) for k in range(cells)) for j in range(cells)]


def break_somewhere(cells, bodies, equation, deeds):
    return any(differ(cells, bodies, equation, deeds, board) for board in corners(cells))


def short_deeds(cells, bodies, cls, most_bits, most_commands, numbers=(0, 1, -2)):
    """Return (length, deed) of all deeds of a class with short runs."""
    return [
        (length, (cls[0], bits, n))
        for bits, way, length in reference.all_runs(cells, bodies, cls[0], most_bits, most_commands)
        if way == cls[1] for n in numbers
    ]


def random_equation(seed, classes, cells):
    """Return an equation by the words of point 27."""
    source = random.Random(seed)
    variables = [source.choice(classes) for _ in range(source.choice([1, 2, 2]))]
    while True:
        indexes = list(range(len(variables)))
        left = source.sample(indexes, source.randint(0, len(indexes)))
        right = source.sample(indexes, source.randint(0, len(indexes)))
        if set(left) | set(right) == set(indexes):
            break
    asked = sorted(source.sample(range(cells), source.randint(1, cells)))
    return variables, left, right, asked
