"""Books that are turned about, and books with a renamed row."""

from joinpast.books import least_book
from joinpast.rowsets import renamed_rows
from joinpast.shortest import shortest


def turned_book(book):
    """Return the book that the families keep that keep `book` turned about."""
    rules = [[(row, -shift, coefficient) for row, shift, coefficient in rule] for rule in shortest(book)]
    return least_book(book.rows, rules)


def renamed_book(book, old, new):
    """Return the book in which the row `old` is called `new`."""
    rows = renamed_rows(book.rows, old, new)
    names = dict(zip(book.rows, rows))
    rules = [[(names[row], shift, coefficient) for row, shift, coefficient in rule] for rule in shortest(book)]
    return least_book(rows, rules)
