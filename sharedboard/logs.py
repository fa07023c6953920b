"""Logs: histories with the same end, and shorter ones in the place of longer ones."""

from sharedboard.deeds import classes_of_history, deed_class, matrices_of_history
from sharedboard.ends import first_indexes, give_the_same
from sharedboard.equations import strikes
from sharedboard.errors import NoDeed, NoDeeds, NoIndex, TooMany
from sharedboard.kinds import copied, is_index

MOST_PRESSED = 10
MOST_GIVEN = 6
MOST_UNDOING = 3


def same_end(book, one, other):
    """Tell whether two histories end with equal boards from every board."""
    matrices = matrices_of_history(book, one)
    others = matrices_of_history(book, other)
    return give_the_same(book.cells() + 1, matrices, others)


def pressed(book, history):
    """Return the first of the shortest sublists of a history that have the same end as it."""
    matrices = matrices_of_history(book, history)
    if len(history) > MOST_PRESSED:
        raise TooMany(len(history))
    indexes = first_indexes(book.cells() + 1, [], matrices, matrices, len(history), False)
    return copied([history[index] for index in indexes])


def without(items, index, many):
    """Return a list without that many items from an index on."""
    return items[:index] + items[index + many:]


def struck_once(words, rest):
    """Return what remains of tuples (deed, class) if the first rule that applies is used, or None if none does."""
    for index, (_, cls) in enumerate(rest):
        if words[(cls,)]:
            return without(rest, index, 1)
        if index + 1 == len(rest):
            return None
        both = words[cls, rest[index + 1][1]]
        if "undo" in both:
            return without(rest, index, 2)
        if "last" in both:
            return without(rest, index, 1)
        if "first" in both:
            return without(rest, index + 1, 1)
    return None


def struck(book, history):
    """Return what remains of a history when deeds are struck until no rule applies."""
    classes = classes_of_history(book, history)
    words = strikes(book)
    rest = list(zip(history, classes))
    fewer = struck_once(words, rest)
    while fewer is not None:
        rest = fewer
        fewer = struck_once(words, rest)
    return copied([deed for deed, _ in rest])


def check_deeds(book, deeds):
    """Raise NoDeeds for what is no list of one to six deeds of a book."""
    if not isinstance(deeds, list) or not 1 <= len(deeds) <= MOST_GIVEN:
        raise NoDeeds()
    try:
        for deed in deeds:
            deed_class(book, deed)
    except NoDeed:
        raise NoDeeds() from None


def undone(book, history, index, deeds):
    """Return the first list of given deeds behind which a history ends as it does without the deed at an index."""
    matrices = matrices_of_history(book, history)
    if not is_index(index, len(history)):
        raise NoIndex()
    check_deeds(book, deeds)
    given = matrices_of_history(book, deeds)
    goal = without(matrices, index, 1)
    indexes = first_indexes(book.cells() + 1, matrices, given, goal, MOST_UNDOING, True)
    return None if indexes is None else copied([deeds[place] for place in indexes])
