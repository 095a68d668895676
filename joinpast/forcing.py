"""Families that keep rules beside a family that is known."""

from joinpast.continuing import gone_on, most_of
from joinpast.courses import course
from joinpast.families import Family, settled_from
from joinpast.leastform import sum_of
from joinpast.plainpolys import normal
from joinpast.syzygies import short_vectors
from joinpast.tails import mirrored
from joinpast.trimming import trimmed
from joinpast.vectors import moved_vector, negative


def forced(rows, vectors, family):
    """Return a family with the rows that keeps rules beside the one that is passed.

    The vectors have a column for each of the rows and behind them one for each
    row of the family that is passed. All that follows from them about this one
    alone is kept by it; so the other one can go on from anywhere to both sides.
    It starts where the shortest stretch of the family that is passed tells.
    """
    known = trimmed(family)
    width = len(rows)
    found = [begun_at_zero(vector, width) for vector in short_vectors(vectors, width)]
    schemes = [scheme_of(vector[:width]) for vector in found]
    pushes = [course(known, sum_of(known.rows, negative(vector[width:]))) for vector in found]
    moving = [push for push, vector in zip(pushes, found) if any(vector[width:])]
    start = min([push.first for push in moving], default=known.first)
    settled = max([settled_from(push) for push in moving], default=start)
    right, after = rightward(schemes, width, pushes, start, max(settled, start), known.after)
    left, before = leftward(schemes, width, pushes, start, right, known.before)
    held = left[::-1] + right
    entries = [[column[at] for column in held] for at in range(width)]
    return Family(rows, start - len(left), entries, before=mirrored(before), after=after)


def begun_at_zero(vector, width):
    """Return the vector moved such that 0 is the least shift before `width`."""
    return moved_vector(vector, -min([p[0][0] for p in vector[:width] if p]))


def scheme_of(vector):
    """Return the coefficients of a vector: for each shift those of all columns."""
    length = max([p[-1][0] for p in vector if p]) + 1
    columns = [dict(p) for p in vector]
    return [[column.get(at, 0) for column in columns] for at in range(length)]


def rightward(schemes, width, pushes, start, settled, p):
    """Return columns from the place `start` on, and how they go on.

    The pushes are the values that the schemes should have. From the place
    `settled` on, they go on by p.
    """
    count = settled - start + most_of(schemes, p)
    sequences = [
        push.window(start - len(scheme) + 1, count)[0] for push, scheme in zip(pushes, schemes)
    ]
    return gone_on(schemes, width, [], across(sequences, count), p)


def leftward(schemes, width, pushes, start, columns, p):
    """Return columns before the place `start`, the last one first, and how they go on.

    The columns that are passed are those from `start` on.
    """
    count = most_of(schemes, p)
    sequences = [push.window(start - count, count)[0][::-1] for push in pushes]
    turned = [scheme[::-1] for scheme in schemes]
    return gone_on(turned, width, columns[::-1], across(sequences, count), normal(mirrored(p)))


def across(sequences, count):
    """Return `count` lists that have the items of all sequences at the same spot."""
    return [[sequence[at] for sequence in sequences] for at in range(count)]
