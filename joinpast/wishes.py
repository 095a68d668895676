"""How the rules of a book come from those of a stricter book, the wish."""

from joinpast.books import Book
from joinpast.errors import NotStricter
from joinpast.leastform import derived_each, sum_of
from joinpast.rowsets import require_same_rows
from joinpast.shortest import shortest
from joinpast.sums import normal_rule, sum_plus, sum_times


def require_stricter(book, wish):
    """Raise an error unless each family that keeps the wish keeps the book."""
    require_same_rows(book.rows, wish.rows)
    for rule in book.rules:
        if rule not in wish:
            raise NotStricter(rule)


def numbered_rows(count):
    """Return so many row names, ascending."""
    return tuple(["w" + str(at).zfill(5) for at in range(count)])


def inner_book(book, rules):
    """Return the book that the courses of the shortest rules of a wish keep.

    It has a row for each of these rules, of which there is at least one. The
    rules of the book come from them, and the factors by which they come are the
    rules of the inner book.
    """
    rows = numbered_rows(len(rules))
    pairs = derived_each(book.rows, rules, shortest(book))
    return Book(rows, [sum_of(rows, factors) for _, factors in pairs])


def outer_rule(rules, factors):
    """Return the rule that is obtained by factors of the rules."""
    total = ()
    for factor, rule in zip(factors, rules):
        total = sum_plus(total, sum_times(factor, rule))
    return normal_rule(total)
