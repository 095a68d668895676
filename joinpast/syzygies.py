"""What cancels vectors of polynomials, and what is left without some columns."""

from joinpast.echelon import echelon
from joinpast.plainpolys import ONE
from joinpast.shortening import mended


def unit_vector(width, index):
    """Return the vector with one at the index and zeros elsewhere."""
    return tuple([ONE if at == index else () for at in range(width)])


def short_vectors(vectors, width):
    """Return vectors of the least lengths from which the same ones come.

    Only the columns before `width` count for the lengths. Vectors that have
    zeros in all of them are left out.
    """
    zeros = [0 for _ in range(width)]
    better = vectors
    while better is not None:
        found = [vector for vector in better if any(vector[:width])]
        better = mended(found, zeros, zeros)
    return found


def cancelling(vectors, width):
    """Return the shortest vectors that give zero with each of the vectors.

    Two vectors give the sum of the products of their items. Each column is
    carried along by a mark, so that what makes the columns cancel comes out.
    """
    lines = [
        tuple([vector[column] for vector in vectors]) + unit_vector(width, column)
        for column in range(width)
    ]
    return short_vectors(behind(lines, len(vectors)), width)


def behind(vectors, hidden):
    """Return vectors with zeros in the first `hidden` columns, without these.

    All such vectors that come from those that are passed come from these.
    """
    _, emptied = echelon(vectors, hidden)
    return [vector[hidden:] for vector in emptied]
