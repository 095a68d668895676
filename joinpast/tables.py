"""The table of remainders of a book, and how many families obey a polynomial."""

from joinpast.divisors import common
from joinpast.leastform import vector_of
from joinpast.minors import divisor_of_minors
from joinpast.plainpolys import ONE, divided, normal
from joinpast.polynomials import span
from joinpast.shortest import shortest


def table(book):
    """Return the table of remainders.

    The shortest rules have the same greatest common divisors of determinants
    as the least form, because each follows from the other.
    """
    vectors = [vector_of(book.rows, rule) for rule in shortest(book)]
    found = []
    upper = divisor_of_minors(vectors, len(vectors))
    for size in range(len(vectors) - 1, -1, -1):
        lower = ONE if upper == ONE else divisor_of_minors(vectors, size)
        found.append(normal(divided(upper, lower, 0)[1]))
        upper = lower
    return tuple(found[::-1])


def count_obeying(book, p):
    """Return how many independent families keep the book and obey p."""
    return book.free_count * span(p) + sum([span(common(p, each)) for each in table(book)])


def period_count(book, period):
    """Return how many independent families keep the book with this period."""
    return count_obeying(book, ((0, -1), (period, 1)))
