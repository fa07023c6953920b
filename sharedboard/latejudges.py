"""Judges of what is said about late joiners: tables from which on claims hold, and deeds behind which they do not."""

from sharedboard.claims import check_pair_claims, hold_on_table, value_of
from sharedboard.deeds import steps_of_history
from sharedboard.ends import EXACT, reduced, vector_behind
from sharedboard.joiners import Joiners
from sharedboard.kinds import is_board
from sharedboard.least import FIRST_MODULUS
from sharedboard.matrices import unit
from sharedboard.pairjudges import are_pair_tables, first_gap, holds_table
from sharedboard.pairs import check_many, paired
from sharedboard.reach import classes_of, first_not_let


def from_fault(book, sender, claims, k, thing):
    """Return the first fault of a thing as pair tables that show claims to hold from k deeds on, or None."""
    check_pair_claims(book, sender, claims)
    check_many(k)
    if not are_pair_tables(book, sender, thing, k + 1):
        return ("form",)
    found = Joiners(book, sender)
    if not holds_table(found.entries, thing[0]):
        return ("entries",)
    index = first_gap(found.pair_ways, thing)
    if index is not None:
        return "next", index
    if not found.pair_ways.leads(thing[-1], thing[-1]):
        return ("closed",)
    for index in range(k, len(thing)):
        if not hold_on_table(claims, thing[index]):
            return "claim", index
    return None


def end_kept(book, claims, states, thing):
    """Tell whether all claims hold at some states behind a history, and deeds that a joiner with a board does, too."""
    before = steps_of_history(book, thing[0])
    deeds = steps_of_history(book, thing[2])
    start = unit(book.cells() + 1, 0)
    for modulus in (FIRST_MODULUS, EXACT):
        one = vector_behind([*before, *deeds], start, modulus)
        other = vector_behind(deeds, [1, *thing[1]], modulus)
        values = [value_of(form, paired(one, other)) for state in states for form in claims[state]]
        if any(reduced(modulus, values)):
            return False
    return True


def late_fault(book, sender, claims, many, thing):
    """Return the first fault of a thing as a joiner's run behind which some claim is broken, or None."""
    check_pair_claims(book, sender, claims)
    check_many(many)
    if not isinstance(thing, tuple) or len(thing) != 3 or not is_board(thing[1], book.cells()):
        return ("form",)
    lists = [classes_of(book, thing[0]), classes_of(book, thing[2])]
    if lists[0] is None or lists[1] is None or len(lists[1]) != many:
        return ("form",)
    classes = [*lists[0], *lists[1]]
    index = first_not_let(sender, classes)
    if index is not None:
        return "let", index
    states = sender.behind(0, classes)
    return ("kept",) if end_kept(book, claims, states, thing) else None
