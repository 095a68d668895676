"""Which rows may have lied, and what is true despite their lies."""

from joinpast.choices import choices
from joinpast.courses import course
from joinpast.despites import despite
from joinpast.errors import Contradiction, Unsure
from joinpast.hiding import other_rows, shown_book
from joinpast.keeping import keeps
from joinpast.seeing import formula


def suspects(book, readings, *, liars):
    """Return all smallest sets of at most `liars` rows that may have lied."""
    known = shown_book(book, readings.rows)
    found = []
    for count in range(min(liars, len(readings.rows)) + 1):
        larger = [rows for rows in choices(readings.rows, count) if not holds_one(rows, found)]
        found = found + [rows for rows in larger if may_have_lied(known, readings, rows)]
    return tuple(found)


def holds_one(rows, sets):
    """Tell whether one of the sets is contained in the rows."""
    return any([all([row in rows for row in each]) for each in sets])


def may_have_lied(known, readings, rows):
    """Tell whether the readings in all other rows are those of a kept family."""
    others = other_rows(readings.rows, rows)
    return not others or keeps(shown_book(known, others), readings.only(others))


def truth(book, readings, terms, *, liars):
    """Return the course of the sum in all explanations of the readings.

    A sure sum is told by the rows that are left if any set is left out that
    may have lied.
    """
    if not despite(book, readings.rows, terms, liars=liars).sure:
        raise Unsure()
    sets = suspects(book, readings, liars=liars)
    if not sets:
        raise Contradiction()
    divisor, told = formula(book, other_rows(readings.rows, sets[0]), terms)
    return course(readings, told).scaled((1, divisor))
