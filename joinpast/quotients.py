"""Sums of vectors that a polynomial divides, divided by it."""

from math import gcd

from joinpast.linear import stepped
from joinpast.plainpolys import divided, spread
from joinpast.vectors import combined, moved_vector


def quotients(vectors, p):
    """Return vectors that come from the vectors when p is applied to them.

    All such vectors come from these and the vectors themselves. It is enough
    to look at sums of the vectors moved by less than the span of the normal
    polynomial p: a sum is needed if p leaves nothing of it.
    """
    moved = [moved_vector(vector, by) for vector in vectors for by in range(spread(p))]
    width = spread(p) * len(vectors[0]) if vectors else 0
    lines = []
    for index in range(len(moved)):
        scale, line = remainder_line(moved[index], p)
        lines.append({**line, width + index: scale})
    _, rests = stepped(lines, width)
    sums = [combined([rest.get(width + at, 0) for at in range(len(moved))], moved) for rest in rests]
    return [tuple([divided(part, p, 0)[1] for part in vector]) for vector in sums]


def remainder_line(vector, p):
    """Return a multiplier and the line of what p leaves of this multiple."""
    parts = [divided(part, p, 0) for part in vector]
    scale = 1
    for by, _, _ in parts:
        scale = scale // gcd(scale, by) * by
    line = {}
    for column in range(len(parts)):
        by, _, rest = parts[column]
        for shift, coefficient in rest:
            line[column * spread(p) + shift] = scale // by * coefficient
    return scale, line
