"""Shortest rules for a book."""

from joinpast.leastform import short_rules
from joinpast.sums import reach


def shortest(book):
    """Return a shortest tuple of rules, with reaches in ascending order."""
    return short_rules(book.rows, book.rules)


def reaches(book):
    """Return the reaches of a shortest tuple of rules."""
    return tuple([reach(rule) for rule in shortest(book)])
