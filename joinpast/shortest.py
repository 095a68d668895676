"""Shortest rules for a book."""

from joinpast.leastform import sum_of, vector_of
from joinpast.shortening import shortened
from joinpast.sums import normal_rule, reach


def shortest(book):
    """Return a shortest tuple of rules, with reaches in ascending order."""
    vectors = [vector_of(book.rows, rule) for rule in book.rules]
    rules = [
        normal_rule(sum_of(book.rows, vector)) for vector in shortened(vectors, len(book.rows))
    ]
    measured = sorted([(reach(rule), rule) for rule in rules])
    return tuple([rule for _, rule in measured])


def reaches(book):
    """Return the reaches of a shortest tuple of rules."""
    return tuple([reach(rule) for rule in shortest(book)])
