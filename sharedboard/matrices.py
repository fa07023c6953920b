"""Matrices: lists of width * width integers, row by row."""


def composed(width, one, other):
    """Return the composition of two matrices: "one, then other"."""
    rows = [one[start:start + width] for start in range(0, width * width, width)]
    result = []
    for start in range(0, width * width, width):
        total = [0] * width
        for factor, row in zip(other[start:start + width], rows):
            # Most matrices of commands have many zeros.
            if factor != 0:
                total = [number + factor * more for number, more in zip(total, row)]
        result.extend(total)
    return result


def applied(width, matrix, vector):
    """Return the list that a matrix gives on a list of as many integers as its width."""
    return [
        sum([matrix[width * row + column] * vector[column] for column in range(width)])
        for row in range(width)
    ]


def drawn_back(width, matrix, form):
    """Return the form whose value on a vector is that of a form on what the matrix gives on the vector."""
    return [
        sum([form[row] * matrix[width * row + column] for row in range(width)])
        for column in range(width)
    ]


def unit(width, place):
    """Return the vector with 1 at a place and 0 elsewhere."""
    return [1 if place == other else 0 for other in range(width)]


def of_columns(columns):
    """Return the numbers of columns row by row."""
    return [number for row in zip(*columns) for number in row]


def identity(width):
    """Return the matrix that leaves each vector as it is."""
    return of_columns([unit(width, place) for place in range(width)])
