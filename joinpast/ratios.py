"""Fractions: pairs of a top and a positive bottom in lowest terms."""

from math import gcd

from joinpast.errors import NoQuotient

ZERO = (0, 1)


def fraction(value):
    """Return the fraction for a whole number or a pair."""
    if isinstance(value, int):
        return (value, 1)
    top, bottom = value
    shared = gcd(top, bottom)
    if bottom < 0:
        shared = -shared
    return (top // shared, bottom // shared)


def plus(one, two):
    """Return the sum of two fractions."""
    top, bottom = fraction(one)
    more, under = fraction(two)
    return fraction((top * under + more * bottom, bottom * under))


def times(one, two):
    """Return the product of two fractions."""
    top, bottom = fraction(one)
    more, under = fraction(two)
    return fraction((top * more, bottom * under))


def over(one, two):
    """Return the quotient of two fractions."""
    top, bottom = fraction(one)
    more, under = fraction(two)
    if more == 0:
        raise NoQuotient()
    return fraction((top * under, bottom * more))


def weighted(factors, entries):
    """Return the sum of whole numbers times fractions, pair by pair."""
    top = 0
    bottom = 1
    for factor, entry in zip(factors, entries):
        if factor == 0 or entry[0] == 0:
            continue
        if entry[1] == bottom:
            top = top + factor * entry[0]
        else:
            shared = gcd(bottom, entry[1])
            top = top * (entry[1] // shared) + factor * entry[0] * (bottom // shared)
            bottom = bottom // shared * entry[1]
    return fraction((top, bottom))


def without_bottoms(vectors):
    """Multiply all fractions by the least number that makes them whole."""
    shared = 1
    for vector in vectors:
        for _, bottom in vector:
            shared = shared // gcd(shared, bottom) * bottom
    return [[top * (shared // bottom) for top, bottom in vector] for vector in vectors]
