"""Which families keep a book, and where others break it."""

from joinpast.courses import course
from joinpast.ratios import ZERO
from joinpast.rowsets import require_same_rows


def keeps(book, family):
    """Tell whether the family keeps the book."""
    require_same_rows(book.rows, family.rows)
    return all([course(family, rule).extent() is None for rule in book.rules])


def breaks(book, family):
    """Yield the pairs of a place and an index where a given rule is broken."""
    require_same_rows(book.rows, family.rows)
    courses = [course(family, rule) for rule in book.given]
    last = last_break(courses)
    held = []
    known = 0
    place = 0
    while last is None or abs(place) <= last:
        if abs(place) >= known:
            known = 2 * known + 8
            held = [part.window(1 - known, 2 * known - 1)[0] for part in courses]
        for index in range(len(held)):
            if held[index][place + known - 1] != ZERO:
                yield (place, index)
        place = 1 - place if place <= 0 else -place


def last_break(courses):
    """Return how far from 0 the last entry other than 0 is, or None if endless.

    If all courses are zero, then the answer is -1.
    """
    farthest = -1
    for part in courses:
        extent = part.extent()
        if extent is None:
            continue
        if extent[0] is None or extent[1] is None:
            return None
        farthest = max(farthest, abs(extent[0]), abs(extent[1]))
    return farthest


def first_break(book, family):
    """Return the first of the pairs that `breaks` yields, or None."""
    for pair in breaks(book, family):
        return pair
    return None
