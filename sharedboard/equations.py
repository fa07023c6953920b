"""Equations of deeds: which always hold, and deeds that break the others."""

from sharedboard.boardspaces import board_spaces
from sharedboard.deeds import deed_class, deed_matrix
from sharedboard.errors import NoDeed, NoEquation, NoEquations
from sharedboard.kinds import class_list
from sharedboard.least import least_runs
from sharedboard.leastdeeds import least_deeds, written_deed
from sharedboard.sides import check_equation, choices, holds_on
from sharedboard.tables import run_spaces, table, table_fault

# The words of strikes of two classes, in ascending order, with the sides of their equations.
STRIKES = (
    ("first", (0, 1), (0,)),
    ("last", (0, 1), (1,)),
    ("swap", (0, 1), (1, 0)),
    ("undo", (0, 1), ()),
)


def holds_in(book, spaces, equation):
    """Tell whether an equation holds on each choice of basis vectors of the board spaces of its variables."""
    width = book.cells() + 1
    for matrices in choices([spaces[cls].basis() for cls in equation[0]]):
        if not holds_on(width, equation, matrices):
            return False
    return True


def whole_length(deeds):
    """Return the sum of the lengths of the runs of least deeds."""
    return sum([deed.length for deed in deeds])


def breaking_deeds(book, least, equation):
    """Return deeds, one for each variable, that break an equation, the sum of their lengths being the least."""
    width = book.cells() + 1
    found = choices([least_deeds(book, least, cls) for cls in equation[0]])
    for deeds in sorted(found, key=whole_length):
        if not holds_on(width, equation, [deed.matrix for deed in deeds]):
            return [written_deed(least, deed) for deed in deeds]
    return []


def decide(book, equation):
    """Return ("holds", table) for an equation that always holds, otherwise ("deeds", deeds that break it)."""
    check_equation(book, equation)
    least = least_runs(book)
    spaces = run_spaces(book, least)
    if holds_in(book, board_spaces(book, spaces), equation):
        return "holds", spaces
    return "deeds", breaking_deeds(book, least, equation)


def deed_fault(book, deed, cls, index):
    """Return the fault of a thing as a deed of a class for a variable, or None."""
    try:
        found = deed_class(book, deed)
    except NoDeed:
        return ("deed", index)
    return None if found == cls else ("class", index)


def equation_fault(book, equation, thing):
    """Return the first fault of a thing as deeds that break an equation, or None."""
    check_equation(book, equation)
    variables = equation[0]
    if not isinstance(thing, list) or len(thing) != len(variables):
        return ("form",)
    for index, cls in enumerate(variables):
        fault = deed_fault(book, thing[index], cls, index)
        if fault is not None:
            return fault
    matrices = [deed_matrix(book, deed) for deed in thing]
    return ("kept",) if holds_on(book.cells() + 1, equation, matrices) else None


def check_equations(book, equations):
    """Raise NoEquations for what is no list of equations of a book."""
    if not isinstance(equations, list):
        raise NoEquations(-1)
    for index, equation in enumerate(equations):
        try:
            check_equation(book, equation)
        except NoEquation:
            raise NoEquations(index) from None


def holds_fault(book, equations, thing):
    """Return the first fault of a thing as a closed table that shows equations to hold, or None."""
    check_equations(book, equations)
    fault = table_fault(book, thing)
    if fault is not None:
        return fault
    spaces = board_spaces(book, thing)
    for index, equation in enumerate(equations):
        if not holds_in(book, spaces, equation):
            return ("equation", index)
    return None


def strikes(book):
    """Return the dict of the words that hold for each class and each pair of classes."""
    spaces = board_spaces(book, table(book))
    cells = list(range(book.cells()))
    classes = class_list(len(book))
    found = {}
    for one in classes:
        found[(one,)] = ["home"] if holds_in(book, spaces, ([one], [0], [], cells)) else []
        for other in classes:
            found[one, other] = [
                word for word, left, right in STRIKES
                if holds_in(book, spaces, ([one, other], list(left), list(right), cells))
            ]
    return found
