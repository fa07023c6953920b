"""Matrices: lists of width * width integers, row by row."""


def composed(width, one, other):
    """Return the composition of two matrices: "one, then other"."""
    return [
        sum([other[width * row + k] * one[width * k + column] for k in range(width)])
        for row in range(width)
        for column in range(width)
    ]


def applied(width, matrix, vector):
    """Return the list that a matrix gives on a list of as many integers as its width."""
    return [
        sum([matrix[width * row + column] * vector[column] for column in range(width)])
        for row in range(width)
    ]
