"""Determinants of polynomials and their greatest common divisors."""

from joinpast.divisors import common
from joinpast.plainpolys import ONE, cleaned, divided, product_of, spread


def determinant(lines):
    """Return the determinant of as many lines as columns, or its negative.

    In each step the items become determinants of the first lines and columns,
    one more than before; so they can be divided by the item that led before.
    """
    rest = [list(line) for line in lines]
    last = ONE
    while rest:
        lengths = sorted([(spread(rest[at][0]), at) for at in range(len(rest)) if rest[at][0]])
        if not lengths:
            return ()
        chosen = lengths[0][1]
        first = rest[chosen]
        rest = [crossed(first, rest[at], last) for at in range(len(rest)) if at != chosen]
        last = first[0]
    return last


def crossed(first, line, last):
    """Return the line without its first item, made 0 by another line, over `last`."""
    minus = tuple([(shift, -coefficient) for shift, coefficient in line[0]])
    return [
        divided(cleaned(product_of(first[0], held) + product_of(minus, other)), last, 0)[1]
        for other, held in zip(first[1:], line[1:])
    ]


def divisor_of_minors(vectors, count):
    """Return the greatest common divisor of all determinants of a size.

    It is the normal polynomial, or zero if all determinants are zero.
    """
    found = ()
    width = len(vectors[0]) if vectors else 0
    for lines in choices(len(vectors), count):
        for columns in choices(width, count):
            minor = determinant([[vectors[at][column] for column in columns] for at in lines])
            found = common(found, minor)
            if found == ONE:
                return found
    return found


def choices(many, count):
    """Return all ascending lists of `count` numbers below `many`."""
    found = [[]]
    for _ in range(count):
        found = [
            chosen + [at] for chosen in found for at in range(chosen[-1] + 1 if chosen else 0, many)
        ]
    return found
