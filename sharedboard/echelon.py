"""Canonical bases, built up vector by vector.

A basis is held as the list of its tuples (pivot, vector), the items of the pivots ascending.
No function here changes a basis: what grows is returned as a new list.
"""

from math import gcd, lcm

from sharedboard.modular import basis_modulo, lifted

LARGE_BITS = 400
# 2 to the power of 521, less 1, is a prime.
PRIME_BITS = 521


def first_place(vector):
    """Return the item of the first nonzero number of a vector."""
    place = 0
    while vector[place] == 0:
        place = place + 1
    return place


def primitive(vector):
    """Return a vector, not zero throughout, divided by a number: no common divisor is left, the pivot is positive."""
    divisor = 0
    for number in vector:
        if divisor == 1:
            break
        divisor = gcd(divisor, number)
    if vector[first_place(vector)] < 0:
        divisor = -divisor
    if divisor == 1:
        return vector
    return [number // divisor for number in vector]


def is_zero(vector):
    """Tell whether a vector is zero throughout."""
    return not any(vector)


def rest_of(basis, vector):
    """Return a multiple of a vector less a combination of the basis: what has 0 at each pivot.

    It is zero exactly if the vector lies in the space of the basis.
    """
    used = [(vector[pivot], row[pivot], row) for pivot, row in basis if vector[pivot] != 0]
    scale = 1
    for number, lead, _ in used:
        scale = lcm(scale, lead // gcd(lead, number))
    rest = vector if scale == 1 else [scale * number for number in vector]
    for number, lead, row in used:
        factor = scale * number // lead
        rest = [one - factor * other for one, other in zip(rest, row)]
    return rest


def with_rest(basis, rest):
    """Return the basis with a further vector, one that has 0 at each pivot and is not zero throughout."""
    row = primitive(rest)
    pivot = first_place(row)
    ahead = [(place, cleared(other, row, pivot)) for place, other in basis if place < pivot]
    return [*ahead, (pivot, row), *[entry for entry in basis if entry[0] > pivot]]


def cleared(vector, row, pivot):
    """Return a vector changed by a row so that it has 0 at the row's pivot."""
    if vector[pivot] == 0:
        return vector
    common = gcd(vector[pivot], row[pivot])
    factor = vector[pivot] // common
    scale = row[pivot] // common
    return primitive([scale * one - factor * other for one, other in zip(vector, row)])


def extended(basis, vector):
    """Return the basis of the space with a further vector in it."""
    if len(basis) == len(vector):
        return basis
    rest = rest_of(basis, vector)
    if is_zero(rest):
        return basis
    return with_rest(basis, rest)


def basis_of(vectors):
    """Return the basis of the space of a list of vectors."""
    if is_canonical(vectors):
        return [(first_place(vector), vector) for vector in vectors]
    if is_large(vectors):
        guess = guessed_basis(vectors)
        if spans(guess, vectors):
            return guess
    return grown_basis(vectors)


def grown_basis(vectors):
    """Return the basis of the space of a list of vectors, dividing each row by what it can be divided by."""
    basis = []
    for vector in vectors:
        basis = extended(basis, vector)
    return basis


def is_canonical(vectors):
    """Tell whether vectors are a canonical basis as they are."""
    if not all([any(vector) for vector in vectors]):
        return False
    pivots = [first_place(vector) for vector in vectors]
    if not all([one < other for one, other in zip(pivots, pivots[1:])]):
        return False
    for vector, pivot in zip(vectors, pivots):
        if [place for place in pivots if vector[place] != 0] != [pivot] or primitive(vector) != vector:
            return False
    return True


def is_large(vectors):
    """Tell whether there are several vectors, and numbers that make the bases on the way to the last one slow."""
    if len(vectors) < 2:
        return False
    return any([number.bit_length() > LARGE_BITS for vector in vectors for number in vector])


def guessed_basis(vectors):
    """Return the basis that the vectors seem to have, going by their numbers modulo a prime.

    It never has more vectors than the true one: a large minor may vanish modulo the prime, but none appears.
    """
    prime = (1 << PRIME_BITS) - 1
    found = basis_modulo(prime, vectors)
    return sorted([(pivot, primitive(lifted(prime, row))) for pivot, row in found])


def spans(basis, vectors):
    """Tell whether all vectors lie in the space of a basis."""
    return all([is_zero(rest_of(basis, vector)) for vector in vectors])


def vanishing_forms(width, vectors):
    """Return the canonical basis of the forms that are 0 on vectors, as a list of forms.

    With the last nonzero numbers of the vectors as pivots, a form for each other item is nonzero at this item and
    at pivots behind it only: such forms are a canonical basis as they are.
    """
    turned = grown_basis([vector[::-1] for vector in vectors])
    rows = {width - 1 - place: row[::-1] for place, row in turned}
    return [primitive(form_at(width, rows, item)) for item in range(width) if item not in rows]


def form_at(width, rows, item):
    """Return a form that is 0 on rows and, of the items that are no pivots, is nonzero at this one alone."""
    used = [(pivot, row[pivot], row[item]) for pivot, row in rows.items() if row[item] != 0]
    scale = 1
    for _, lead, number in used:
        scale = lcm(scale, lead // gcd(lead, number))
    form = [0] * width
    form[item] = scale
    for pivot, lead, number in used:
        form[pivot] = -(scale * number // lead)
    return form
