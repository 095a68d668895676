"""How long a gap must be for a joint."""

from joinpast.barring import gap_lines, has_joint, require_joinable
from joinpast.families import Family
from joinpast.following import counterexample
from joinpast.keeping import keeps
from joinpast.plainpolys import ONE
from joinpast.pulses import widths
from joinpast.steering import steerable_part
from joinpast.tables import table


def least_gap(book, past, future, *, place=0):
    """Return the least gap with which two families have a joint, or None.

    A family that keeps the steerable part is joined to the family of zeros
    within the greatest width of a pulse.
    """
    require_joinable(book, past, future)
    if not keeps(steerable_part(book), past - future):
        return None
    low = 0
    high = max(widths(book), default=0)
    while low < high:
        half = (low + high) // 2
        if has_joint(book, past, future, place, half):
            high = half
        else:
            low = half + 1
    return low


def is_steerable(book):
    """Tell whether any two families have a joint with some gap."""
    return all([p == ONE for p in table(book)])


def universal_gap(book):
    """Return the least gap with which any two families have a joint, or None."""
    return max(widths(book), default=0) if is_steerable(book) else None


def hard_pair(book, gap):
    """Return two families that have no joint at place 0, or None.

    A sum that leaves the gap out bars some joint unless its part in the past
    follows from the book.
    """
    _, _, bars = gap_lines(book, gap)
    for bar in bars:
        past = counterexample(book, [term for term in bar if term[1] < 0])
        if past is not None:
            return (past, Family.zero(book.rows))
    return None
