"""Vectors: tuples of polynomials, one for each column of a scheme."""

from math import gcd

from joinpast.plainpolys import cleaned, content, remaining


def mixed(scale, vector, factor, other):
    """Return scale * vector - factor * other, without a common divisor."""
    return lightened(tuple([
        remaining(scale, p, factor, q) for p, q in zip(vector, other)
    ]))


def lightened(vector):
    """Return the vector divided by the divisor of all its coefficients."""
    shared = 0
    for p in vector:
        shared = gcd(shared, content(p))
        if shared == 1:
            return vector
    if shared == 0:
        return vector
    return tuple([
        tuple([(shift, coefficient // shared) for shift, coefficient in p]) for p in vector
    ])


def first_filled(vector, width):
    """Return the first column before `width` that is not zero, or None."""
    for column in range(width):
        if vector[column]:
            return column
    return None


def negative(vector):
    """Return the vector times -1."""
    return tuple([tuple([(shift, -coefficient) for shift, coefficient in p]) for p in vector])


def moved_vector(vector, by):
    """Return the vector with `by` added to all shifts."""
    return tuple([
        tuple([(shift + by, coefficient) for shift, coefficient in p]) for p in vector
    ])


def combined(factors, vectors):
    """Return the sum of the vectors times whole numbers, without a common divisor."""
    return lightened(tuple([
        cleaned([
            (shift, factor * coefficient)
            for factor, vector in zip(factors, vectors)
            for shift, coefficient in vector[column]
        ])
        for column in range(len(vectors[0]))
    ]))
