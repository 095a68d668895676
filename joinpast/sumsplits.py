"""Families as sums of families that keep two books."""

from joinpast.barring import require_kept
from joinpast.forcing import forced
from joinpast.leastform import vector_of
from joinpast.rowsets import require_same_rows
from joinpast.shortest import shortest
from joinpast.vectors import negative


def split_sum(one, two, family):
    """Return a family that keeps `one` and one that keeps `two`, with this sum."""
    require_same_rows(one.rows, two.rows)
    require_same_rows(one.rows, family.rows)
    require_kept(one + two, family)
    rows = family.rows
    zeros = tuple([() for _ in rows])
    vectors = [vector_of(rows, rule) + zeros for rule in shortest(one)]
    for rule in shortest(two):
        vector = vector_of(rows, rule)
        vectors.append(vector + negative(vector))
    first = forced(rows, vectors, family)
    return (first, family - first)
