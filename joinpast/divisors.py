"""Common divisors and multiples of polynomials."""

from joinpast.echelon import cleared
from joinpast.plainpolys import ONE, cleaned, divided, normal, product_of
from joinpast.vectors import lightened


def common(p, q):
    """Return the greatest common divisor, a normal polynomial or zero."""
    return normal(gathered((cleaned(p),), (cleaned(q),))[0])


def common_parts(p, q):
    """Return (m, f, h) with m * common(p, q) = f * p + h * q."""
    found, first, second = gathered((cleaned(p), ONE, ()), (cleaned(q), (), ONE))
    if not found:
        return (1, (), ())
    by = found[0][0]
    times = found[-1][1] // normal(found)[-1][1]
    sign = 1 if times > 0 else -1
    parts = [
        tuple([(shift - by, sign * coefficient) for shift, coefficient in part])
        for part in (first, second)
    ]
    return (sign * times, parts[0], parts[1])


def gathered(one, two):
    """Return the vector that keeps the common divisor of both first items."""
    if not one[0]:
        return two
    return cleared(lightened(one), lightened(two), 0)[0]


def least_multiple(p, q):
    """Return the least common multiple, a normal polynomial or zero."""
    one = cleaned(p)
    two = cleaned(q)
    if not one or not two:
        return ()
    quotient = divided(one, common(one, two), 0)[1]
    return normal(product_of(quotient, two))
