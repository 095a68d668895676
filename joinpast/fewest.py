"""The fewest rows that must be shown to tell some sums."""

from joinpast.choices import choices
from joinpast.hiding import other_rows
from joinpast.rowsets import require_rows
from joinpast.sums import ordered, rows_of
from joinpast.telling import shown_vector, told_by


def fewest_shown(book, wanted):
    """Return the first tuple of rows, the shortest ones first, that tells all sums.

    A row without which all others do not tell the sums is always among them.
    """
    sums = [ordered(terms) for terms in wanted]
    for terms in sums:
        require_rows(rows_of(terms), book.rows)
    needed = [row for row in book.rows if not all_told(book, other_rows(book.rows, (row,)), sums)]
    others = other_rows(book.rows, needed)
    for count in range(len(others)):
        found = sorted([tuple(sorted([*needed, *more])) for more in choices(others, count)])
        for shown in found:
            if all_told(book, shown, sums):
                return shown
    return book.rows


def all_told(book, shown, sums):
    """Tell whether the shown rows tell all of the sums."""
    told = told_by(book, shown)
    return all([shown_vector(told, terms) is not None for terms in sums])
