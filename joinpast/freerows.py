"""Rows of a book that are free: every family of them occurs."""

from joinpast.hiding import other_rows
from joinpast.leastform import vector_of
from joinpast.rowsets import chosen_rows
from joinpast.shortest import shortest
from joinpast.syzygies import behind


def is_free(book, rows):
    """Tell whether every family of these rows occurs in a family that keeps the book."""
    return leaves_free(book.rows, shortest(book), chosen_rows(rows, book.rows))


def leaves_free(rows, rules, chosen):
    """Tell whether nothing follows from independent rules about the chosen rows alone."""
    hidden = other_rows(rows, chosen)
    return not behind([vector_of(hidden + chosen, rule) for rule in rules], len(hidden))


def free_sets(book):
    """Return all sets of as many free rows as possible.

    Each part of a free set is free, so the sets grow from row to row.
    """
    rules = shortest(book)
    found = [()]
    for _ in range(book.free_count):
        found = [
            chosen + (row,)
            for chosen in found
            for row in book.rows
            if (not chosen or row > chosen[-1]) and leaves_free(book.rows, rules, chosen + (row,))
        ]
    return tuple(found)
