"""Which wished books can be enforced by rules on some of the rows."""

from joinpast.books import Book
from joinpast.errors import NoRows
from joinpast.following import counterexample
from joinpast.hiding import shown_book
from joinpast.rowsets import chosen_rows, require_rows
from joinpast.seeing import unseen


class Enforcement:
    """Added rules that enforce a wish, or families that show why there are none."""

    def __init__(self, added, let_anyway, never_let):
        self.added = added
        self.let_anyway = let_anyway
        self.never_let = never_let


def bounds(book, rows, on):
    """Return the least and the greatest wish that added rules can enforce."""
    greatest = shown_book(book, rows)
    chosen = chosen_rows(on, book.rows)
    if not chosen:
        return (greatest, greatest)
    return (shown_book(book & Book.zero(chosen), rows), greatest)


def enforce(book, wish, on):
    """Return rules on the chosen rows that enforce the wish, or why there are none.

    If there are such rules, then also those which hold in the chosen rows of
    all families that keep both books.
    """
    require_rows(wish.rows, book.rows)
    if len(on) == 0:
        raise NoRows()
    chosen = chosen_rows(on, book.rows)
    let_anyway = first_found([unseen(book, chosen, rule) for rule in wish.rules])
    greatest = shown_book(book, wish.rows)
    never_let = first_found([counterexample(wish, rule) for rule in greatest.rules])
    if let_anyway is not None or never_let is not None:
        return Enforcement(None, let_anyway, never_let)
    return Enforcement(shown_book(book & wish, chosen), None, None)


def first_found(families):
    """Return the first one that is not None, or None."""
    for family in families:
        if family is not None:
            return family
    return None
