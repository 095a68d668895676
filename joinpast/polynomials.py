"""Polynomials: tuples of pairs of a shift and a coefficient."""

from joinpast.errors import ZeroPolynomial
from joinpast.plainpolys import cleaned, divided, normal, product_of, spread


def polynomial(pairs):
    """Return the polynomial of pairs in any order."""
    return cleaned(pairs)


def normal_polynomial(p):
    """Return the normal polynomial of p, or zero for zero."""
    return normal(cleaned(p))


def span(p):
    """Return the greatest minus the least shift."""
    plain = cleaned(p)
    if not plain:
        raise ZeroPolynomial()
    return spread(plain)


def poly_plus(p, q):
    """Return the sum of two polynomials."""
    return cleaned([*p, *q])


def poly_times(p, q):
    """Return the product of two polynomials."""
    return product_of(p, q)


def poly_divided(p, q):
    """Return the triple (m, f, r) with m * p = f * q + r."""
    divisor = cleaned(q)
    if not divisor:
        raise ZeroPolynomial()
    return divided(cleaned(p), divisor, 0)


def divides(q, p):
    """Tell whether a multiple of p, other than by 0, is a product with q."""
    divisor = cleaned(q)
    dividend = cleaned(p)
    if not divisor:
        return not dividend
    return not divided(dividend, divisor, 0)[2]
