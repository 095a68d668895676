"""Schemes of polynomials in steps: each vector begins behind the one before.

The functions may only replace vectors by others from which, with polynomials
as factors and up to multiples by fractions, the same vectors are obtained.
"""

from joinpast.plainpolys import divided, spread
from joinpast.vectors import first_filled, lightened, mixed


def echelon(vectors, width):
    """Return the vectors in steps, and those that became zero.

    Only the columns before `width` count for the steps. The first item is a
    list of pairs of a column and the vector that begins there; the second one
    is a list of vectors that have only zeros in these columns.
    """
    steps = {}
    emptied = []
    for vector in vectors:
        rest = lightened(vector)
        column = first_filled(rest, width)
        while column is not None and column in steps:
            held, rest = cleared(steps[column], rest, column)
            below = [(at, steps[at]) for at in sorted(steps) if at > column]
            steps[column] = lowered(held, held[column][0][0], below)
            column = first_filled(rest, width)
        if column is None:
            emptied.append(rest)
        else:
            steps[column] = rest
    return [(column, steps[column]) for column in sorted(steps)], emptied


def cleared(held, rest, column):
    """Change two vectors until the second one is zero in the column."""
    while rest[column]:
        if spread(rest[column]) < spread(held[column]):
            held, rest = rest, held
        low = rest[column][0][0]
        scale, factor, _ = divided(rest[column], held[column], low)
        rest = mixed(scale, rest, factor, held)
    return held, rest


def lowered(vector, low, steps):
    """Return the vector with entries that are short where a step begins.

    At the column of each step, all shifts become at least `low`, and less than
    `low` plus the span of the entry with which the step begins.
    """
    for column, step in steps:
        scale, factor, _ = divided(vector[column], step[column], low)
        if factor:
            vector = mixed(scale, vector, factor, step)
    return vector


def hermite(vectors, width):
    """Return vectors in steps, each lowered by all steps behind it."""
    steps, _ = echelon(vectors, width)
    done = []
    for column, vector in steps[::-1]:
        low = vector[column][0][0]
        done = [(column, lowered(vector, low, done))] + done
    return [vector for _, vector in done]
