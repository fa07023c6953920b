"""Judging lists of pair tables."""

from sharedboard.reach import is_reach_form


def are_pair_tables(book, sender, thing, least):
    """Tell whether a thing is a list of pair tables, at least so many."""
    if not isinstance(thing, list) or len(thing) < least:
        return False
    width = 2 * book.cells() + 1
    return all([is_reach_form(item, sender.states(), width) for item in thing])


def holds_table(table, further):
    """Tell whether a further table has all the states of a table, and spaces there that contain those of the table."""
    return all([state in further and table[state].within(further[state]) for state in list(table)])


def first_gap(pair_ways, tables):
    """Return the least index of a table that the next one does not contain what it leads to, or None."""
    for index in range(len(tables) - 1):
        # A table that comes again and again needs to be asked once only.
        again = index > 0 and tables[index - 1] == tables[index] and tables[index] == tables[index + 1]
        if not again and not pair_ways.leads(tables[index], tables[index + 1]):
            return index
    return None
