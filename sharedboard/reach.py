"""What always holds of the board: the boards behind let histories, claims, and equations there."""

from sharedboard.boardspaces import board_spaces
from sharedboard.claims import check_claims, first_broken
from sharedboard.deeds import deed_class, done
from sharedboard.errors import NoDeed, NoState
from sharedboard.journeys import Journeys
from sharedboard.kinds import is_index
from sharedboard.least import least_runs
from sharedboard.leastdeeds import least_deeds, written_deed
from sharedboard.sides import check_equation, choices, difference_rows
from sharedboard.spaces import Space, image
from sharedboard.tables import run_spaces, table


def reach_table(book, journeys):
    """Return the reach table that journeys span."""
    bases = journeys.bases()
    return {state: Space(book.cells() + 1, bases[state]) for state in list(bases)}


def reach(book, sender):
    """Return the dict of the spaces of the board vectors behind all let histories, state by state."""
    return reach_table(book, Journeys(book, sender, least_runs(book)))


def settle(book, sender, claims):
    """Return ("sure", table) if all claims always hold, otherwise ("history", a shortest history behind which not)."""
    check_claims(book, sender, claims)
    found = Journeys(book, sender, least_runs(book))
    for journey in found.journeys:
        if first_broken(claims[journey.state], [journey.vector]) is not None:
            return "history", found.history(journey)
    return "sure", reach_table(book, found)


def is_reach_form(thing, states, width):
    """Tell whether a thing is a dict from states to spaces of a width."""
    if not isinstance(thing, dict):
        return False
    for state, space in thing.items():
        if not is_index(state, states) or not isinstance(space, Space) or space.width() != width:
            return False
    return True


def open_way(book, sender, thing):
    """Return the tuple (state, index) of the first way that leads out of a reach table, or None."""
    spaces = board_spaces(book, table(book))
    for state in sorted(list(thing)):
        for index, (cls, other) in enumerate(sender.ways(state)):
            if other not in thing:
                return state, index
            if not image(book.cells() + 1, spaces[cls], thing[state]).within(thing[other]):
                return state, index
    return None


def sure_fault(book, sender, claims, thing):
    """Return the first fault of a thing as a closed reach table on which all claims hold, or None."""
    check_claims(book, sender, claims)
    width = book.cells() + 1
    if not is_reach_form(thing, sender.states(), width):
        return ("form",)
    if 0 not in thing or [1] + [0] * book.cells() not in thing[0]:
        return ("start",)
    found = open_way(book, sender, thing)
    if found is not None:
        return "closed", found[0], found[1]
    for state in sorted(list(thing)):
        index = first_broken(claims[state], thing[state].basis())
        if index is not None:
            return "claim", state, index
    return None


def classes_of(book, thing):
    """Return the list of the classes of a list of deeds, or None for what is none."""
    if not isinstance(thing, list):
        return None
    try:
        return [deed_class(book, deed) for deed in thing]
    except NoDeed:
        return None


def first_not_let(sender, classes):
    """Return the least index up to which a list of classes is not let, or None."""
    for index in range(len(classes)):
        if not sender.behind(0, classes[:index + 1]):
            return index
    return None


def history_fault(book, sender, claims, thing):
    """Return the first fault of a thing as a let history behind which some claim is broken, or None."""
    check_claims(book, sender, claims)
    classes = classes_of(book, thing)
    if classes is None:
        return ("form",)
    index = first_not_let(sender, classes)
    if index is not None:
        return "let", index
    vector = [1, *done(book, thing)]
    for state in sender.behind(0, classes):
        if first_broken(claims[state], [vector]) is not None:
            return None
    return ("kept",)


def differences(book, equation, lists):
    """Return the rows in which the sides of an equation differ, for all choices of the matrices of its variables."""
    return [
        row for matrices in choices(lists)
        for row in difference_rows(book.cells() + 1, equation, matrices) if any(row)
    ]


def breaking_there(book, least, equation, vector):
    """Return deeds, one for each variable, that break an equation at a board vector."""
    for deeds in choices([least_deeds(book, least, cls) for cls in equation[0]]):
        rows = difference_rows(book.cells() + 1, equation, [deed.matrix for deed in deeds])
        if first_broken(rows, [vector]) is not None:
            return [written_deed(least, deed) for deed in deeds]
    return []


def decide_there(book, sender, state, equation):
    """Ask an equation at the boards that can come at a state: ("holds",) or ("breaks", history, deeds)."""
    if not is_index(state, sender.states()):
        raise NoState()
    check_equation(book, equation)
    least = least_runs(book)
    spaces = board_spaces(book, run_spaces(book, least))
    rows = differences(book, equation, [spaces[cls].basis() for cls in equation[0]])
    found = Journeys(book, sender, least)
    for journey in found.journeys:
        if journey.state == state and first_broken(rows, [journey.vector]) is not None:
            return "breaks", found.history(journey), breaking_there(book, least, equation, journey.vector)
    return ("holds",)
