"""Late joiners: what is sure of the boards of the one and of a joiner, and from when on."""

from sharedboard.claims import check_pair_claims, hold_on_table
from sharedboard.errors import NoList
from sharedboard.joiners import Joiners
from sharedboard.kinds import is_cell_list
from sharedboard.matrices import unit
from sharedboard.pairs import check_many, paired
from sharedboard.spaces import Space, vanishing


def entries(book, sender):
    """Return the pair table of all entries."""
    return Joiners(book, sender).entries


def after(book, sender, many):
    """Return the pair table behind exactly that many further deeds."""
    check_many(many)
    return Joiners(book, sender).table(many)


def level(book, sender, cells):
    """Return the pair claims that these cells of both boards are equal."""
    if not is_cell_list(cells, book.cells()):
        raise NoList()
    return [[level_form(book.cells() + 1, cell) for cell in cells] for _ in range(sender.states())]


def level_form(width, cell):
    """Return the form of pair vectors with 1 at a cell of the one and -1 at that of the other."""
    one = unit(width, cell + 1)
    return paired(one, [-number for number in one])


def when_sure(book, sender, claims):
    """Return ("from", k, tables) with the least k from which on all claims hold, otherwise ("never", last table)."""
    check_pair_claims(book, sender, claims)
    tables = Joiners(book, sender).tables
    for many, table in enumerate(tables):
        if hold_on_table(claims, table):
            return "from", many, tables[:many + 1]
    return "never", tables[-1]


def late_run(book, sender, claims, many):
    """Return None if all claims hold behind that many deeds, otherwise (before, board, deeds) with which not."""
    check_pair_claims(book, sender, claims)
    check_many(many)
    found = Joiners(book, sender)
    if hold_on_table(claims, found.table(many)):
        return None
    return found.breaking_run(claims, many)


def last_claims(book, sender):
    """Return the dict from all states to the space of the forms that vanish there in the end."""
    last = Joiners(book, sender).tables[-1]
    nothing = Space(2 * book.cells() + 1, [])
    return {state: vanishing(last[state] if state in last else nothing) for state in range(sender.states())}
