"""How sums are told by shown rows.

A vector has its polynomials for the hidden rows first, then those for the
shown rows, and last the number by which the sum was multiplied.
"""

from joinpast.echelon import echelon
from joinpast.hiding import other_rows, vectors_of
from joinpast.leastform import freed, sum_of, vector_of
from joinpast.plainpolys import ONE
from joinpast.vectors import first_filled, lightened, negative


def told_by(book, chosen):
    """Return what is needed to ask what the chosen rows tell.

    These are the rows, the hidden ones first, how many are hidden, steps in
    the hidden rows, and the vectors without hidden rows.
    """
    hidden = other_rows(book.rows, chosen)
    vectors = [vector + ((),) for vector in vectors_of(book, hidden + chosen)]
    steps, emptied = echelon(vectors, len(hidden))
    return (hidden + chosen, len(hidden), steps, [vector[len(hidden):] for vector in emptied])


def shown_vector(told, terms):
    """Return the vector of a sum without hidden rows, or None if not told."""
    rows, width, steps, _ = told
    rest = vector_of(rows, terms) + (ONE,)
    for column, step in steps:
        rest = freed(rest, column, step)
    return rest[width:] if first_filled(rest, width) is None else None


def formula_of(chosen, vector):
    """Return the formula of a vector without hidden rows."""
    plain = lightened(vector)
    if plain[-1][0][1] < 0:
        plain = negative(plain)
    return (plain[-1][0][1], sum_of(chosen, plain[:-1]))
