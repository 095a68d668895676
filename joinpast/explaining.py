"""Books that explain families: each of them keeps the book."""

from joinpast.books import least_book
from joinpast.errors import NoFamilies
from joinpast.keeping import keeps
from joinpast.rowsets import require_same_rows
from joinpast.vanishing import vanishing_rules


def explains(book, families):
    """Tell whether each of the families keeps the book."""
    for family in families:
        require_same_rows(book.rows, family.rows)
    return all([keeps(book, family) for family in families])


def strictest(families):
    """Return the book of all sums that are 0 at each place in the families."""
    if len(families) == 0:
        raise NoFamilies()
    rows = families[0].rows
    for family in families:
        require_same_rows(rows, family.rows)
    return least_book(rows, vanishing_rules(families))
