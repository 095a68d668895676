"""Families that go by themselves: they obey a polynomial."""

from joinpast.families import settled_from
from joinpast.leasttails import least_tail
from joinpast.polynomials import span


def obeys(family, p):
    """Tell whether the polynomial, applied to each row, gives only zeros."""
    return family.applied(p).extent() is None


def least_polynomial(family):
    """Return the least polynomial that the family obeys, or None.

    A family that obeys a polynomial obeys the least one of its right side:
    applied to the family, this gives zeros on the right, and by the other
    polynomial, whose ends are not 0, zeros everywhere.
    """
    held = family.window(settled_from(family), span(family.after))
    found = least_tail(held, family.after)
    return found if obeys(family, found) else None
