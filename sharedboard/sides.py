"""The form of equations of deeds, and the matrices of their sides."""

from sharedboard.errors import NoEquation
from sharedboard.kinds import is_cell_list, is_class, is_index
from sharedboard.matrices import composed, identity


def is_index_list(value, many):
    """Tell whether a value is a list of indexes of a list with that many items, none of them twice."""
    if not isinstance(value, list) or not all([is_index(item, many) for item in value]):
        return False
    return all([value.count(item) == 1 for item in value])


def check_equation(book, equation):
    """Raise NoEquation for what is no equation of a book."""
    if not isinstance(equation, tuple) or len(equation) != 4:
        raise NoEquation("equation")
    variables, left, right, cells = equation
    if not isinstance(variables, list) or len(variables) not in (1, 2):
        raise NoEquation("variables")
    if not all([is_class(cls, len(book)) for cls in variables]):
        raise NoEquation("variables")
    if not is_index_list(left, len(variables)):
        raise NoEquation("left")
    if not is_index_list(right, len(variables)):
        raise NoEquation("right")
    if not all([index in left or index in right for index in range(len(variables))]):
        raise NoEquation("right")
    if not is_cell_list(cells, book.cells()) or not cells:
        raise NoEquation("cells")


def side_matrix(width, side, matrices):
    """Return the matrix of a side in the homogeneous form; the matrices are those of the variables."""
    result = identity(width)
    for index in side:
        result = composed(width, result, matrices[index])
    factor = 1
    for index, matrix in enumerate(matrices):
        if index not in side:
            factor = factor * matrix[0]
    return [factor * number for number in result]


def difference_rows(width, equation, matrices):
    """Return the rows, one for each cell of an equation, in which the matrices of its sides differ."""
    _, left, right, cells = equation
    one = side_matrix(width, left, matrices)
    other = side_matrix(width, right, matrices)
    difference = [number - less for number, less in zip(one, other)]
    return [difference[width * (cell + 1):width * (cell + 2)] for cell in cells]


def holds_on(width, equation, matrices):
    """Tell whether an equation holds, in the homogeneous form, on one matrix for each of its variables."""
    return not any([any(row) for row in difference_rows(width, equation, matrices)])


def choices(lists):
    """Return all lists of one item of each list, those with early items first."""
    found = [[]]
    for items in lists:
        found = [[*chosen, item] for chosen in found for item in items]
    return found
