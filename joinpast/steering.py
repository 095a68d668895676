"""What of a book can be steered, and what goes on by itself."""

from joinpast.barring import require_kept
from joinpast.books import Book, least_book
from joinpast.forcing import forced
from joinpast.leastform import sum_of, vector_of
from joinpast.plainpolys import ONE
from joinpast.quotients import quotients
from joinpast.rowsets import require_same_rows
from joinpast.shortest import shortest
from joinpast.syzygies import short_vectors
from joinpast.tables import table
from joinpast.vectors import negative


def steerable_part(book):
    """Return the book from which exactly the unchangeable sums follow.

    All of them follow from the book if the last polynomial of the table is
    applied to them.
    """
    if book.free_count == 0:
        return Book.zero(book.rows)
    last = last_remainder(book)
    vectors = [vector_of(book.rows, rule) for rule in shortest(book)]
    found = short_vectors(vectors + quotients(vectors, last), len(book.rows))
    return least_book(book.rows, [sum_of(book.rows, vector) for vector in found])


def last_remainder(book):
    """Return the last polynomial of the table, or one if the table is empty."""
    return table(book)[-1] if len(book) > 0 else ONE


def split(book, family):
    """Return a steered and a going family whose sum is the family."""
    require_same_rows(book.rows, family.rows)
    require_kept(book, family)
    width = len(book.rows)
    rules = [vector_of(book.rows, rule) for rule in shortest(steerable_part(book))]
    last = last_remainder(book)
    vectors = [vector + negative(vector) for vector in rules]
    for column in range(width):
        vectors.append(tuple([last if at == column else () for at in range(2 * width)]))
    going = forced(book.rows, vectors, family)
    return (family - going, going)
