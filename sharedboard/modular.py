"""Bases of vectors modulo a number, and the rational numbers that they stand for.

They are quick, but they only guess: whoever uses them asks afterwards, exactly, whether the guess is right.
A basis is a list of tuples (pivot, vector) as in echelon, each vector with 1 at its pivot.
"""

from math import isqrt


def inverse(modulus, number):
    """Return what gives the greatest common divisor with the modulus when it is multiplied by the number."""
    one, other = modulus, number
    factor, further = 0, 1
    while other != 0:
        quotient = one // other
        one, other = other, one - quotient * other
        factor, further = further, factor - quotient * further
    return factor


def rest_modulo(modulus, basis, vector):
    """Return a vector less the combination of a basis that makes it 0 at each pivot."""
    rest = vector
    for pivot, row in basis:
        factor = vector[pivot]
        if factor != 0:
            rest = [one - factor * other for one, other in zip(rest, row)]
    return [number % modulus for number in rest]


def with_rest_modulo(modulus, basis, rest):
    """Return the basis with a further vector, one that has 0 at each pivot and is not zero throughout."""
    pivot = 0
    while rest[pivot] == 0:
        pivot = pivot + 1
    factor = inverse(modulus, rest[pivot])
    row = [factor * number % modulus for number in rest]
    return [*[(place, cleared_modulo(modulus, other, row, pivot)) for place, other in basis], (pivot, row)]


def cleared_modulo(modulus, vector, row, pivot):
    """Return a vector less a multiple of a row, so that it has 0 at the row's pivot."""
    factor = vector[pivot]
    if factor == 0:
        return vector
    return [(one - factor * other) % modulus for one, other in zip(vector, row)]


def basis_modulo(modulus, vectors):
    """Return the basis of a list of vectors."""
    basis = []
    for vector in vectors:
        rest = rest_modulo(modulus, basis, [number % modulus for number in vector])
        if any(rest):
            basis = with_rest_modulo(modulus, basis, rest)
    return basis


def least_denominator(modulus, number):
    """Return the least denominator of a small fraction that the number stands for."""
    bound = isqrt(modulus // 2)
    one, other = modulus, number
    factor, further = 0, 1
    while other > bound:
        quotient = one // other
        one, other = other, one - quotient * other
        factor, further = further, factor - quotient * further
    return abs(further)


def lifted(modulus, vector):
    """Return a vector of small integers that a vector of numbers stands for, up to one factor."""
    scale = 1
    for number in vector:
        scale = scale * least_denominator(modulus, scale * number % modulus)
    found = [scale * number % modulus for number in vector]
    return [number if 2 * number < modulus else number - modulus for number in found]
