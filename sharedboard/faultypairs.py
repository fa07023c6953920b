"""Faulty pairs: the boards of two replicas one of which has lost or exchanged deeds."""

from sharedboard.echelon import extended
from sharedboard.errors import NoFault
from sharedboard.matrices import applied
from sharedboard.pairs import paired
from sharedboard.sides import choices, side_matrix
from sharedboard.spaces import Space

# For each fault what the two replicas do of the deeds at the end of a faulty history, by their indexes.
SIDES = {"lost": ((0,), ()), "exchanged": ((0, 1), (1, 0))}


def check_fault(fault):
    """Raise NoFault for what is no name of a fault."""
    if not isinstance(fault, str) or fault not in SIDES:
        raise NoFault()


def faulty_deeds(fault):
    """Return the number of deeds that a fault concerns."""
    return len(SIDES[fault][0])


def other_end(fault, end):
    """Return the deeds that the other does in the place of the last deeds of a faulty history."""
    return [end[index] for index in SIDES[fault][1]]


def end_matrices(width, fault, matrices):
    """Return what the one and the other do at the end of a faulty history, the matrices being those of its deeds."""
    one, other = SIDES[fault]
    return side_matrix(width, one, matrices), side_matrix(width, other, matrices)


def pairs_behind(width, ends, vectors):
    """Return the space of the pair vectors behind ends of faulty histories, from board vectors ahead of them."""
    basis = []
    for one, other in ends:
        for vector in vectors:
            # Nothing can be added to the space of all vectors.
            if len(basis) < 2 * width - 1:
                basis = extended(basis, paired(applied(width, one, vector), applied(width, other, vector)))
    return Space(2 * width - 1, [row for _, row in basis])


def faulty_tables(book, sender, fault, spaces, bases):
    """Return a dict from the classes at the ends of faulty histories, ascending, to the pair tables behind these.

    The spaces are the board spaces of the classes, the bases those of the board vectors at the states.
    """
    width = book.cells() + 1
    running = [cls for cls in sorted(list(spaces)) if len(spaces[cls]) > 0]
    found = {}
    for chosen in choices([running] * faulty_deeds(fault)):
        led = {state: sender.behind(state, chosen) for state in list(bases)}
        if not any([led[state] for state in list(led)]):
            continue
        ends = [
            end_matrices(width, fault, matrices)
            for matrices in choices([spaces[cls].basis() for cls in chosen])
        ]
        table = {}
        for state in list(bases):
            if led[state]:
                add_to_table(table, led[state], pairs_behind(width, ends, bases[state]))
        found[tuple(chosen)] = table
    return found


def add_to_table(table, states, space):
    """Add a space to those that a table has at some states."""
    for state in states:
        table[state] = table[state] + space if state in table else space


def whole_table(tables):
    """Return the pair table of all faulty pairs, the tables being those of all classes at the ends."""
    found = {}
    for classes in list(tables):
        for state in list(tables[classes]):
            add_to_table(found, [state], tables[classes][state])
    return found
