"""Run matrices of commands, keeps and calls."""

from sharedboard.matrices import composed, identity, unit


def replacing(width, place, row):
    """Return the matrix that replaces the number at a place of a run vector by the value of a row."""
    result = identity(width)
    result[width * place:width * place + width] = row
    return result


def command_matrix(width, command):
    """Return the run matrix of a command."""
    if command[0] == "set":
        return replacing(width, command[1] + 1, command[2])
    return replacing(width, width - 1, command[1])


def kept_matrix(width, cells, matrix):
    """Return the kept matrix of a list of cells."""
    result = list(matrix)
    places = [cell + 1 for cell in cells] + [width - 1]
    for place in places:
        result[width * place:width * place + width] = [matrix[0] * number for number in unit(width, place)]
    return result


def called_matrix(width, row, matrix):
    """Return the matrix of a call with a row, for a run matrix of the called procedure."""
    return kept_matrix(width, [], composed(width, replacing(width, width - 1, row), matrix))
