"""Joining a past to a future."""

from joinpast.barring import (
    first_bar, fitted, gap_lines, outer_entries, outer_spots, outer_value, require_joinable,
)
from joinpast.ratios import ZERO
from joinpast.rowsets import require_rows, require_same_rows
from joinpast.splices import spliced
from joinpast.sums import ordered, rows_of


class Joining:
    """A joint of two families, or a bar against it; the other one is None."""

    def __init__(self, family, bar):
        self.family = family
        self.bar = bar


def join(book, past, future, *, place=0, gap=0):
    """Return the joint of two families that keep the book, or a bar."""
    require_joinable(book, past, future)
    spots, steps, bars = gap_lines(book, gap)
    entries = outer_entries(outer_spots(spots, gap), past, future, place)
    bar = first_bar(bars, entries)
    if bar is not None:
        return Joining(None, bar)
    found = fitted(spots, steps, entries)
    middle = [[found.get((row, at), ZERO) for at in range(gap)] for row in book.rows]
    return Joining(spliced(past, future, place, middle=middle), None)


def is_bar(book, past, future, terms, *, place=0, gap=0):
    """Tell whether the sum bars the joint."""
    require_same_rows(book.rows, past.rows)
    require_same_rows(book.rows, future.rows)
    plain = ordered(terms)
    require_rows(rows_of(plain), book.rows)
    spots = [term[:2] for term in plain]
    if plain not in book or outer_spots(spots, gap) != spots:
        return False
    return outer_value(plain, outer_entries(spots, past, future, place)) != ZERO
