"""Schemes of polynomials that are made diagonal from both sides."""

from joinpast.divisors import common, least_multiple
from joinpast.echelon import hermite
from joinpast.plainpolys import normal


def diagonal(vectors):
    """Return normal polynomials, one for each of the vectors, which are independent.

    The vectors are put in steps, and then their columns, again and again. This
    changes the greatest common divisors of determinants only by multiples
    that do not count. At last each line and each column has one polynomial.
    """
    lines = vectors
    while not is_diagonal(lines):
        lines = hermite(columns_of(lines), len(lines))
    return dividing([normal(p) for line in lines for p in line if p])


def columns_of(lines):
    """Return the columns of lines as vectors."""
    return [tuple([line[column] for line in lines]) for column in range(len(lines[0]))]


def is_diagonal(lines):
    """Tell whether no line and no column has two polynomials other than zero."""
    filled = [column for line in lines for column in range(len(line)) if line[column]]
    return len(filled) == len(lines) and len(filled) == len(set(filled))


def dividing(polynomials):
    """Return polynomials that do the same, each of which divides the next one."""
    found = list(polynomials)
    for low in range(len(found)):
        for high in range(low + 1, len(found)):
            one, two = found[low], found[high]
            found[low] = common(one, two)
            found[high] = least_multiple(one, two)
    return found
