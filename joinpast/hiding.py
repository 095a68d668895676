"""Books and families of which only some rows are shown."""

from joinpast.barring import require_kept
from joinpast.books import least_book
from joinpast.forcing import forced
from joinpast.leastform import sum_of, vector_of
from joinpast.rowsets import require_rows, row_set
from joinpast.shortest import shortest
from joinpast.syzygies import behind


def shown_book(book, rows):
    """Return the book that the families keep that are shown in these rows."""
    named = row_set(rows)
    require_rows(named, book.rows)
    hidden = other_rows(book.rows, named)
    found = behind(vectors_of(book, hidden + named), len(hidden))
    return least_book(named, [sum_of(named, vector) for vector in found])


def filled(book, family):
    """Return a family that keeps the book and has the rows of the family."""
    require_rows(family.rows, book.rows)
    require_kept(shown_book(book, family.rows), family)
    hidden = other_rows(book.rows, family.rows)
    if not hidden:
        return family
    return forced(hidden, vectors_of(book, hidden + family.rows), family).beside(family)


def other_rows(rows, named):
    """Return the rows that are not among the named ones."""
    return tuple([row for row in rows if row not in named])


def vectors_of(book, rows):
    """Return the shortest rules as vectors with the rows in this order."""
    return [vector_of(rows, rule) for rule in shortest(book)]
