"""Judges of what is said about faults: tables that show healing, and histories behind which nothing is healed."""

from sharedboard.deeds import steps_of_history
from sharedboard.ends import EXACT, vector_behind
from sharedboard.faultypairs import check_fault, faulty_deeds, other_end
from sharedboard.faults import Faults
from sharedboard.least import FIRST_MODULUS
from sharedboard.matrices import unit
from sharedboard.pairjudges import are_pair_tables, first_gap, holds_table
from sharedboard.pairs import check_many, is_level
from sharedboard.reach import classes_of, first_not_let


def all_level(width, table):
    """Tell whether all pair vectors in the spaces of a table are level."""
    return all([is_level(width, pair) for state in list(table) for pair in table[state].basis()])


def healed_fault(book, sender, fault, thing):
    """Return the first fault of a thing as pair tables that show both replicas to become level, or None."""
    check_fault(fault)
    if not are_pair_tables(book, sender, thing, 1):
        return ("form",)
    found = Faults(book, sender, fault)
    if not holds_table(found.entries, thing[0]):
        return ("entries",)
    index = first_gap(found.pair_ways, thing)
    if index is not None:
        return "next", index
    return None if all_level(book.cells() + 1, thing[-1]) else ("level",)


def end_level(book, fault, before, after):
    """Tell whether both replicas are level behind a faulty history and further deeds."""
    start = unit(book.cells() + 1, 0)
    many = faulty_deeds(fault)
    history = steps_of_history(book, before)
    common = history[:-many]
    further = steps_of_history(book, after)
    one = [*history, *further]
    other = [*common, *other_end(fault, history[-many:]), *further]
    for modulus in (FIRST_MODULUS, EXACT):
        if vector_behind(one, start, modulus) != vector_behind(other, start, modulus):
            return False
    return True


def fault_run_fault(book, sender, fault, many, thing):
    """Return the first fault of a thing as histories behind which both replicas are not level, or None."""
    check_fault(fault)
    check_many(many)
    if not isinstance(thing, tuple) or len(thing) != 2:
        return ("form",)
    lists = [classes_of(book, item) for item in thing]
    if lists[0] is None or lists[1] is None:
        return ("form",)
    if len(lists[0]) < faulty_deeds(fault) or len(lists[1]) != many:
        return ("form",)
    index = first_not_let(sender, [*lists[0], *lists[1]])
    if index is not None:
        return "let", index
    return ("kept",) if end_level(book, fault, thing[0], thing[1]) else None
