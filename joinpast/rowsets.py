"""Row names and row sets."""

from joinpast.errors import BadName, NoRows, RowsDiffer, RowTwice, UnknownRow

LETTERS = "abcdefghijklmnopqrstuvwxyz"
DIGITS = "0123456789"
LONGEST_NAME = 10


def is_row_name(value):
    """Tell whether a string is a row name."""
    if len(value) == 0 or len(value) > LONGEST_NAME or value[0] not in LETTERS:
        return False
    return all([sign in LETTERS or sign in DIGITS for sign in value])


def row_set(names):
    """Return the names as a row set."""
    if len(names) == 0:
        raise NoRows()
    return different_names(names)


def different_names(names):
    """Return the names, of which there may be none, in ascending order."""
    for name in names:
        if not is_row_name(name):
            raise BadName(name)
    seen = set()
    for name in names:
        if name in seen:
            raise RowTwice(name)
        seen.add(name)
    return tuple(sorted(names))


def chosen_rows(names, rows):
    """Return chosen rows of a book that has these rows, in ascending order."""
    chosen = different_names(names)
    require_rows(chosen, rows)
    return chosen


def require_rows(names, rows):
    """Raise an error for the first of the names that is not a row."""
    for name in names:
        if name not in rows:
            raise UnknownRow(name)


def require_same_rows(one, two):
    """Raise an error if two row sets differ."""
    if one != two:
        raise RowsDiffer(one, two)


def renamed_rows(rows, old, new):
    """Return the rows, each at its spot, in which `old` is called `new`."""
    require_rows([old], rows)
    named = [new if name == old else name for name in rows]
    # All other names are good and different, so errors can only be about `new`.
    row_set(named)
    return named
