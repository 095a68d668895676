"""The table of remainders of a book, and how many families obey a polynomial."""

from joinpast.diagonals import diagonal
from joinpast.divisors import common
from joinpast.leastform import vector_of
from joinpast.polynomials import span
from joinpast.shortest import shortest


def table(book):
    """Return the table of remainders.

    The greatest common divisors of determinants stay the same if rules are
    replaced by others from which the same follows. So they are those of a
    diagonal scheme, in which each polynomial divides the next one.
    """
    return tuple(diagonal([vector_of(book.rows, rule) for rule in shortest(book)]))


def count_obeying(book, p):
    """Return how many independent families keep the book and obey p."""
    return book.free_count * span(p) + sum([span(common(p, each)) for each in table(book)])


def period_count(book, period):
    """Return how many independent families keep the book with this period."""
    return count_obeying(book, ((0, -1), (period, 1)))
