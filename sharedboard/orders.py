"""Orders: which deeds conflict, and which histories are weavings of one another."""

from sharedboard.boardspaces import board_spaces
from sharedboard.claims import first_broken
from sharedboard.deeds import classes_of_history
from sharedboard.errors import NoClass, NoOrder
from sharedboard.flow import classes_with_runs
from sharedboard.journeys import Journeys
from sharedboard.kinds import class_list, copied, is_class
from sharedboard.least import least_runs
from sharedboard.reach import breaking_there, differences
from sharedboard.senders import free
from sharedboard.tables import run_spaces


def class_pairs(book):
    """Return the ascending list of the pairs of classes (first, second) with first <= second."""
    classes = class_list(len(book))
    return [(first, second) for first in classes for second in classes if first <= second]


def swap_equation(book, pair):
    """Return the equation that deeds of two classes give the same in both orders."""
    return list(pair), [0, 1], [1, 0], list(range(book.cells()))


def swap_rows(book, spaces, pair):
    """Return the rows in which both orders of deeds of two classes differ, going by their board spaces."""
    return differences(book, swap_equation(book, pair), [spaces[cls].basis() for cls in pair])


def conflicts(book):
    """Return the ascending list of the pairs of classes that conflict at a board behind some history."""
    if not classes_with_runs(book):
        return []
    least = least_runs(book)
    spaces = board_spaces(book, run_spaces(book, least))
    vectors = Journeys(book, free(book), least).bases()[0]
    return [pair for pair in class_pairs(book) if first_broken(swap_rows(book, spaces, pair), vectors) is not None]


def shown(book, pairs):
    """Return (history, one, other): deeds of one of the pairs that conflict behind a shortest history; or None."""
    if not classes_with_runs(book):
        return None
    least = least_runs(book)
    spaces = board_spaces(book, run_spaces(book, least))
    rows = {pair: swap_rows(book, spaces, pair) for pair in pairs}
    found = Journeys(book, free(book), least)
    for journey in found.journeys:
        for pair in pairs:
            if first_broken(rows[pair], [journey.vector]) is not None:
                deeds = breaking_there(book, least, swap_equation(book, pair), journey.vector)
                return found.history(journey), deeds[0], deeds[1]
    return None


def conflict_shown(book, first, second):
    """Return None for no conflict, otherwise (history, one, other): deeds that conflict behind a shortest history."""
    if not is_class(first, len(book)) or not is_class(second, len(book)) or second < first:
        raise NoClass()
    return shown(book, [(first, second)])


def is_order(value, procedures):
    """Tell whether a value is an order of a book with that many procedures."""
    if not isinstance(value, list):
        return False
    for pair in value:
        if not isinstance(pair, tuple) or len(pair) != 2:
            return False
        # The form is asked ahead of the comparison, for a flag equals an integer.
        if not is_class(pair[0], procedures) or not is_class(pair[1], procedures) or pair[1] < pair[0]:
            return False
    return all([one < other for one, other in zip(value, value[1:])])


def check_order(book, order):
    """Raise NoOrder for what is no order of a book."""
    if not is_order(order, len(book)):
        raise NoOrder()


def stays(order, one, other):
    """Tell whether deeds of two classes may not change places."""
    return (min(one, other), max(one, other)) in order


def least_place(order, rest):
    """Return the place of the least deed that no deed ahead of it must stay ahead of."""
    held = {}
    ahead = {}
    best = 0
    for place, (deed, cls) in enumerate(rest):
        if cls not in held and deed < rest[best][0]:
            best = place
        if cls not in ahead:
            ahead[cls] = True
            for other in order.get(cls, []):
                held[other] = True
    return best


def least_weaving(book, order, history, classes):
    """Return the least weaving of a history, whose classes are told; its deeds are those of the history."""
    partners = {
        cls: [other for other in class_list(len(book)) if stays(order, cls, other)]
        for cls in class_list(len(book))
    }
    rest = list(zip(history, classes))
    found = []
    while rest:
        place = least_place(partners, rest)
        found.append(rest[place][0])
        rest = rest[:place] + rest[place + 1:]
    return found


def weaves(book, order, one, other):
    """Tell whether two histories are weavings of one another for an order."""
    check_order(book, order)
    classes = classes_of_history(book, one)
    others = classes_of_history(book, other)
    return least_weaving(book, order, one, classes) == least_weaving(book, order, other, others)


def normal(book, order, history):
    """Return the least weaving of a history."""
    check_order(book, order)
    classes = classes_of_history(book, history)
    return copied(least_weaving(book, order, history, classes))


def alike_weavings(book, order):
    """Return ("alike",) if weavings always end alike, otherwise ("apart", one, other): shortest ones that do not."""
    check_order(book, order)
    found = shown(book, [pair for pair in class_pairs(book) if pair not in order])
    if found is None:
        return ("alike",)
    history, one, other = found
    return "apart", [*history, one, other], copied([*history, other, one])
