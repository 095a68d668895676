"""Determinants of polynomials."""

from joinpast.plainpolys import ONE, cleaned, divided, product_of, spread


def determinant(lines):
    """Return the determinant of as many lines as columns, or its negative.

    In each step the items become determinants of the first lines and columns,
    one more than before; so they can be divided by the item that led before.
    """
    rest = [list(line) for line in lines]
    last = ONE
    while rest:
        lengths = sorted([(spread(rest[at][0]), at) for at in range(len(rest)) if rest[at][0]])
        if not lengths:
            return ()
        chosen = lengths[0][1]
        first = rest[chosen]
        rest = [crossed(first, rest[at], last) for at in range(len(rest)) if at != chosen]
        last = first[0]
    return last


def crossed(first, line, last):
    """Return the line without its first item, made 0 by another line, over `last`."""
    minus = tuple([(shift, -coefficient) for shift, coefficient in line[0]])
    return [
        divided(cleaned(product_of(first[0], held) + product_of(minus, other)), last, 0)[1]
        for other, held in zip(first[1:], line[1:])
    ]
