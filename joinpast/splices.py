"""Families that are put together from a past and a future."""

from joinpast.families import Family, settled_from
from joinpast.polynomials import span
from joinpast.rowsets import require_same_rows
from joinpast.tails import require_even


def spliced(past, future, place, *, middle=None):
    """Return the past up to the place, then the middle, then the future."""
    require_same_rows(past.rows, future.rows)
    filling = [[] for _ in past.rows] if middle is None else middle
    require_even(len(past.rows), filling)
    behind = place + len(filling[0])
    first = min(past.first, place - span(past.before))
    end = max(settled_from(future), behind) + span(future.after)
    left = past.window(first, place - first)
    right = future.window(behind, end - behind)
    entries = [[*one, *inner, *two] for one, inner, two in zip(left, filling, right)]
    return Family(past.rows, first, entries, before=past.before, after=future.after)
