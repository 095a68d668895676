"""Own rules of sums, and families in which sums have given courses."""

from joinpast.books import Book
from joinpast.echelon import echelon
from joinpast.errors import BreaksOwnRule, NotCourse
from joinpast.forcing import forced
from joinpast.keeping import first_break
from joinpast.leastform import vector_of
from joinpast.plainpolys import ONE, normal
from joinpast.rowsets import require_rows
from joinpast.shortest import shortest
from joinpast.sums import ordered, rows_of


def own_rule(book, terms):
    """Return the own rule of the sum, or zero if it is free."""
    plain = ordered(terms)
    require_rows(rows_of(plain), book.rows)
    vectors = [vector_of(book.rows, rule) + ((),) for rule in book.rules]
    _, emptied = echelon(vectors + [vector_of(book.rows, plain) + (ONE,)], len(book.rows))
    return normal(emptied[0][-1]) if emptied else ()


def family_with(book, terms, course):
    """Return a family that keeps the book and in which the sum has the course."""
    plain = ordered(terms)
    rule = own_rule(book, plain)
    if len(course.rows) != 1:
        raise NotCourse(len(course.rows))
    broken = first_break(course_book(course.rows[0], rule), course)
    if broken is not None:
        raise BreaksOwnRule(broken[0])
    vectors = [vector_of(book.rows, each) + ((),) for each in shortest(book)]
    vectors.append(vector_of(book.rows, plain) + (((0, -1),),))
    return forced(book.rows, vectors, course)


def course_book(row, p):
    """Return the book of one row that the courses keep which obey p."""
    return Book([row], [[(row, shift, coefficient) for shift, coefficient in p]])
