"""Pulses: the finite families of which all finite families consist."""

from joinpast.families import Family
from joinpast.leastform import vector_of
from joinpast.shortest import shortest
from joinpast.syzygies import cancelling
from joinpast.vectors import moved_vector


def pulses(book):
    """Return the pulses of the book, in ascending order of their widths."""
    found = sorted([(vector_width(vector), vector) for vector in pulse_vectors(book)])
    return tuple([Family(book.rows, 0, columns_of(vector, width)) for width, vector in found])


def widths(book):
    """Return the widths of the pulses."""
    return tuple(sorted([vector_width(vector) for vector in pulse_vectors(book)]))


def pulse_vectors(book):
    """Return a vector for each pulse; the entry at `t` has the shift `-t`.

    With this sign the value of a rule in a family becomes a product: so the
    vectors are those that cancel all rules. They are moved such that 0 is the
    greatest shift.
    """
    rules = [vector_of(book.rows, rule) for rule in shortest(book)]
    return [
        moved_vector(vector, -max([p[-1][0] for p in vector if p]))
        for vector in cancelling(rules, len(book.rows))
    ]


def vector_width(vector):
    """Return the width of a pulse."""
    return -min([p[0][0] for p in vector if p])


def columns_of(vector, width):
    """Return the entries of each row at the places 0 to `width`."""
    rows = [dict(p) for p in vector]
    return [[row.get(-at, 0) for at in range(width + 1)] for row in rows]
