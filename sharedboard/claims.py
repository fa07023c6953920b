"""Claims: forms that are to be 0 at the states of a sender."""

from sharedboard.errors import NoClaims
from sharedboard.kinds import is_integer_list

MOST_FORMS = 4


def check_claims(book, sender, claims):
    """Raise NoClaims for what are no claims about the boards at the states of a sender."""
    if not isinstance(claims, list) or len(claims) != sender.states():
        raise NoClaims()
    for forms in claims:
        if not isinstance(forms, list) or len(forms) > MOST_FORMS:
            raise NoClaims()
        if not all([is_integer_list(form, book.cells() + 1) for form in forms]):
            raise NoClaims()


def value_of(form, vector):
    """Return the value of a form on a vector."""
    return sum([one * other for one, other in zip(form, vector)])


def first_broken(forms, vectors):
    """Return the index of the first form that is not 0 on each of the vectors, or None."""
    for index, form in enumerate(forms):
        if any([value_of(form, vector) != 0 for vector in vectors]):
            return index
    return None
