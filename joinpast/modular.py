"""Common divisors of polynomials, found modulo a great prime number.

Polynomials are lists of numbers modulo the prime here: the coefficients from
shift 0 on, without zeros at the end.
"""

from joinpast.plainpolys import divided, normal

PRIME = (1 << 2203) - 1


def found_divisor(p, others):
    """Return the greatest common divisor of polynomials, or None if not found.

    p is normal, and the others have no negative shifts. Modulo the prime, they
    have at least the common divisor that they really have. It is multiplied by
    the last coefficient of p: so what comes out has no fractions, and is right
    if its numbers are less than the prime and it divides all.
    """
    shared = residues(p)
    if len(shared) <= p[-1][0]:
        return None
    for other in others:
        rest = residues(other)
        while rest and len(shared) > 1:
            shared, rest = rest, remainder(shared, rest)
    factor = p[-1][1] * inverse(shared[-1])
    numbers = [balanced(factor * number) for number in shared]
    found = normal(tuple([(at, numbers[at]) for at in range(len(numbers)) if numbers[at] != 0]))
    if any([divided(other, found, 0)[2] for other in [p] + others]):
        return None
    return found


def residues(p):
    """Return the coefficients of a polynomial without negative shifts."""
    held = dict(p)
    return stripped([held.get(at, 0) % PRIME for at in range(p[-1][0] + 1)])


def remainder(one, two):
    """Return a multiple of what is left of `one` when it is divided by `two`."""
    rest = one
    while len(rest) >= len(two):
        start = len(rest) - len(two)
        raised = [two[-1] * number for number in rest[:start]]
        for at in range(len(two)):
            raised.append(two[-1] * rest[start + at] - rest[-1] * two[at])
        rest = stripped([number % PRIME for number in raised])
    return rest


def stripped(numbers):
    """Return the numbers without the zeros at the end."""
    count = len(numbers)
    while count > 0 and numbers[count - 1] == 0:
        count -= 1
    return numbers[:count]


def inverse(number):
    """Return the number whose product with this one is 1 modulo the prime."""
    high, low = PRIME, number
    before, found = 0, 1
    while low > 1:
        times = high // low
        high, low = low, high - times * low
        before, found = found, before - times * found
    return found % PRIME


def balanced(number):
    """Return the number nearest to 0 that is equal modulo the prime."""
    rest = number % PRIME
    return rest - PRIME if 2 * rest > PRIME else rest
