"""Rows of a book that are free: every family of them occurs."""

from joinpast.hiding import other_rows, vectors_of
from joinpast.rowsets import chosen_rows
from joinpast.syzygies import behind


def is_free(book, rows):
    """Tell whether every family of these rows occurs in a family that keeps the book."""
    return are_free(book, chosen_rows(rows, book.rows))


def are_free(book, chosen):
    """Tell whether nothing follows from the book about the chosen rows alone."""
    hidden = other_rows(book.rows, chosen)
    return not behind(vectors_of(book, hidden + chosen), len(hidden))


def free_sets(book):
    """Return all sets of as many free rows as possible.

    Each part of a free set is free, so the sets grow from row to row.
    """
    found = [()]
    for _ in range(book.free_count):
        found = [
            chosen + (row,)
            for chosen in found
            for row in book.rows
            if (not chosen or row > chosen[-1]) and are_free(book, chosen + (row,))
        ]
    return tuple(found)
