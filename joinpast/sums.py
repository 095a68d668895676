"""Sums: tuples of terms of a row, a shift and a coefficient."""

from math import gcd

from joinpast.errors import ZeroSum


def ordered(terms):
    """Return the sum of terms in any order."""
    found = {}
    for row, shift, coefficient in terms:
        found[(row, shift)] = found.get((row, shift), 0) + coefficient
    return tuple([(key[0], key[1], found[key]) for key in sorted(found) if found[key] != 0])


def sum_plus(one, two):
    """Return the sum of two sums."""
    return ordered([*one, *two])


def sum_times(p, terms):
    """Return the sum to whose course the polynomial was applied."""
    return ordered([
        (row, shift + by, factor * coefficient)
        for by, factor in p
        for row, shift, coefficient in terms
    ])


def moved_sum(terms, by):
    """Return the sum with `by` added to each shift."""
    return ordered([(row, shift + by, coefficient) for row, shift, coefficient in terms])


def part_of(terms, row):
    """Return the polynomial of the terms in one row."""
    return tuple([(shift, coefficient) for name, shift, coefficient in ordered(terms) if name == row])


def rows_of(terms):
    """Return the rows that occur in the sum, ascending."""
    return tuple(sorted({term[0] for term in ordered(terms)}))


def shift_bounds(terms):
    """Return the least and the greatest shift of a sum other than zero."""
    shifts = [term[1] for term in terms]
    return min(shifts), max(shifts)


def reach(terms):
    """Return the greatest minus the least shift of all terms."""
    plain = ordered(terms)
    if not plain:
        raise ZeroSum()
    low, high = shift_bounds(plain)
    return high - low


def normal_rule(terms):
    """Return the normal rule of a sum, or the zero sum for the zero sum."""
    plain = ordered(terms)
    if not plain:
        return ()
    low, _ = shift_bounds(plain)
    shared = 0
    for term in plain:
        shared = gcd(shared, term[2])
    if plain[0][2] < 0:
        shared = -shared
    return tuple([(row, shift - low, coefficient // shared) for row, shift, coefficient in plain])
