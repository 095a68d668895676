"""How rules in steps are made as short as possible.

Rules are as short as possible if what they have at their ends is independent,
at both ends: then no sum of moved rules can be shorter than one of them. If
the rules at one end are dependent, a longest rule of the dependence can be
replaced by a shorter one.

A long way from rules in steps to short ones would lead through huge numbers.
Therefore it is made of small steps. Each column gets a weight above, by which
it counts as reaching higher, and a weight below, by which it counts as
reaching lower. There are weights for which rules in steps are as short as
possible. If one weight is eased by 1, little has to be mended; at last all
weights are 0.
"""

from joinpast.linear import first_dependence
from joinpast.plainpolys import cleaned
from joinpast.vectors import first_filled, lightened, moved_vector


def shortened(vectors, width):
    """Return vectors of the least lengths for vectors in steps."""
    above, below = first_weights(vectors, width)
    while any(above) or any(below):
        above = eased(above)
        below = eased(below)
        better = mended(vectors, above, below)
        while better is not None:
            vectors = better
            better = mended(vectors, above, below)
    return vectors


def first_weights(vectors, width):
    """Return weights with which each step reaches farthest where it begins.

    The vectors have zeros in front of the column where they begin, so what
    they have at their ends is independent then.
    """
    above = [0 for _ in range(width)]
    below = [0 for _ in range(width)]
    for vector in vectors[::-1]:
        column = first_filled(vector, width)
        behind = [at for at in range(column + 1, width) if vector[at]]
        start = vector[column][0][0]
        end = vector[column][-1][0]
        above[column] = max([vector[at][-1][0] + above[at] - end for at in behind] + [0])
        below[column] = max([start - vector[at][0][0] + below[at] for at in behind] + [0])
    return above, below


def eased(weights):
    """Return the weights with the greatest one less by 1, unless it is 0."""
    greatest = max(weights)
    chosen = min([at for at in range(len(weights)) if weights[at] == greatest])
    return weights[:chosen] + [max(0, greatest - 1)] + weights[chosen + 1:]


def mended(vectors, above, below):
    """Return the vectors with one that became shorter, or None.

    Columns behind those that have weights are carried along and do not count
    for the lengths. The shorter vector may be zero in all that count.
    """
    items = sorted([measured(vector, above, below) for vector in vectors])
    for at_end in (True, False):
        weights = above if at_end else below
        edges = [
            edge_of(vector, length if at_end else 0, weights, at_end) for length, _, vector in items
        ]
        factors = first_dependence(edges)
        if factors is not None:
            last = len(factors) - 1
            found = gathered(items[:last + 1], factors, at_end)
            kept = items[:last] + items[last + 1:]
            return [item[2] for item in kept] + [found]
    return None


def measured(vector, above, below):
    """Return the length of a vector, its size, and the vector moved to 0.

    Of vectors with the same length the one with the greatest numbers should be
    replaced first; otherwise the numbers grow from step to step.
    """
    filled = [at for at in range(len(above)) if vector[at]]
    low = min([vector[at][0][0] - below[at] for at in filled])
    high = max([vector[at][-1][0] + above[at] for at in filled])
    size = max([abs(coefficient).bit_length() for p in vector for _, coefficient in p])
    return (high - low, size, moved_vector(vector, -low))


def edge_of(vector, limit, weights, at_end):
    """Return the coefficients of all columns at one end of a vector."""
    edge = []
    for p, weight in zip(vector, weights):
        wanted = limit - weight if at_end else limit + weight
        edge.append(sum([coefficient for shift, coefficient in p if shift == wanted]))
    return edge


def gathered(items, factors, at_end):
    """Return the vectors times the factors, moved so that all of them end at 0.

    If `at_end` is False, they are not moved: all of them begin at 0.
    """
    parts = [
        (length if at_end else 0, factor, vector)
        for (length, _, vector), factor in zip(items, factors)
        if factor != 0
    ]
    return lightened(tuple([
        cleaned([
            (shift - by, factor * coefficient)
            for by, factor, vector in parts
            for shift, coefficient in vector[column]
        ])
        for column in range(len(items[-1][2]))
    ]))
