"""Families that go by themselves: they obey a polynomial."""

from joinpast.families import settled_from
from joinpast.linear import first_dependence
from joinpast.plainpolys import normal
from joinpast.polynomials import span
from joinpast.ratios import without_bottoms


def obeys(family, p):
    """Tell whether the polynomial, applied to each row, gives only zeros."""
    return family.applied(p).extent() is None


def least_polynomial(family):
    """Return the least polynomial that the family obeys, or None.

    A family that obeys a polynomial obeys the least one of its right side:
    applied to the family, this gives zeros on the right, and by the other
    polynomial, whose ends are not 0, zeros everywhere.
    """
    length = span(family.after)
    held = family.window(settled_from(family), 2 * length)
    found = tail_polynomial([list(column) for column in zip(*held)], length, length)
    return found if obeys(family, found) else None


def tail_polynomial(columns, depth, most):
    """Return the least polynomial that some columns go on by.

    Each column is determined by the `depth` columns before it, always in the
    same way, and `most` is at least the span of a polynomial that they go on
    by.
    """
    states = [
        [entry for column in columns[at:at + depth] for entry in column]
        for at in range(most + 1)
    ]
    factors = first_dependence(without_bottoms(states))
    return normal([(at, factors[at]) for at in range(len(factors)) if factors[at] != 0])
