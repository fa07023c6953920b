"""Claims: forms that are to be 0 at the states of a sender."""

from sharedboard.errors import NoClaims
from sharedboard.kinds import is_integer_list

MOST_FORMS = 4
MOST_PAIR_FORMS = 7


def check_forms(sender, claims, width, most):
    """Raise NoClaims for what is no list of lists, one for each state, of at most so many forms of a width."""
    if not isinstance(claims, list) or len(claims) != sender.states():
        raise NoClaims()
    for forms in claims:
        if not isinstance(forms, list) or len(forms) > most:
            raise NoClaims()
        if not all([is_integer_list(form, width) for form in forms]):
            raise NoClaims()


def check_claims(book, sender, claims):
    """Raise NoClaims for what are no claims about the boards at the states of a sender."""
    check_forms(sender, claims, book.cells() + 1, MOST_FORMS)


def check_pair_claims(book, sender, claims):
    """Raise NoClaims for what are no claims about the pairs of boards at the states of a sender."""
    check_forms(sender, claims, 2 * book.cells() + 1, MOST_PAIR_FORMS)


def value_of(form, vector):
    """Return the value of a form on a vector."""
    return sum([one * other for one, other in zip(form, vector)])


def first_broken(forms, vectors):
    """Return the index of the first form that is not 0 on each of the vectors, or None."""
    for index, form in enumerate(forms):
        if any([value_of(form, vector) != 0 for vector in vectors]):
            return index
    return None


def hold_on_table(claims, table):
    """Tell whether all claims are 0 on the spaces of a table."""
    return all([first_broken(claims[state], table[state].basis()) is None for state in list(table)])
