"""Arithmetic with polynomials that have the form of point 6 already.

The public functions put what they are passed into this form first; inside
of the package this would only cost time.
"""

from math import gcd

ONE = ((0, 1),)


def cleaned(pairs):
    """Return the polynomial of pairs in any order."""
    found = {}
    for shift, coefficient in pairs:
        found[shift] = found.get(shift, 0) + coefficient
    return tuple([(shift, found[shift]) for shift in sorted(found) if found[shift] != 0])


def product_of(p, q):
    """Return the product of two polynomials, whose pairs may be in any order."""
    return cleaned([
        (shift + by, factor * coefficient) for by, factor in p for shift, coefficient in q
    ])


def remaining(scale, p, factor, q):
    """Return scale * p - factor * q for a whole number `scale`."""
    found = {shift: scale * coefficient for shift, coefficient in p}
    for by, times in factor:
        for shift, coefficient in q:
            found[shift + by] = found.get(shift + by, 0) - times * coefficient
    return tuple([(shift, found[shift]) for shift in sorted(found) if found[shift] != 0])


def spread(p):
    """Return the span of a polynomial other than zero."""
    return p[-1][0] - p[0][0]


def content(p):
    """Return the greatest common divisor of the coefficients."""
    shared = 0
    for _, coefficient in p:
        shared = gcd(shared, coefficient)
        if shared == 1:
            return 1
    return shared


def normal(p):
    """Return the normal polynomial, or zero for zero."""
    if not p:
        return ()
    shared = content(p)
    if p[-1][1] < 0:
        shared = -shared
    return tuple([(shift - p[0][0], coefficient // shared) for shift, coefficient in p])


def divided(p, q, low):
    """Return m, f, r with m * p = f * q + r, where q is not zero.

    The shifts of r are at least `low` and less than `low` plus the span of q.
    m is the least positive number for which this is possible: it only grows by
    what the next coefficient of f lacks, so m and f never have a common divisor.
    """
    if not p:
        return (1, (), ())
    steps = [(at, q[-1]) for at in range(p[-1][0], low + spread(q) - 1, -1)]
    steps = steps + [(at, q[0]) for at in range(p[0][0], low)]
    rest = dict(p)
    factor = {}
    scale = 1
    for at, (end, last) in steps:
        held = rest.get(at, 0)
        if held == 0:
            continue
        shared = gcd(held, last)
        if last < 0:
            shared = -shared
        grow = last // shared
        if grow != 1:
            rest = {shift: grow * rest[shift] for shift in rest}
            factor = {shift: grow * factor[shift] for shift in factor}
            scale = scale * grow
        factor[at - end] = held // shared
        for shift, coefficient in q:
            moved = shift + at - end
            rest[moved] = rest.get(moved, 0) - held // shared * coefficient
    return (scale, cleaned(list(factor.items())), cleaned(list(rest.items())))
