"""Families and books in blocks: each row becomes several rows."""

from joinpast.books import least_book
from joinpast.errors import BadName, NotBlocked
from joinpast.families import Family
from joinpast.rowsets import is_row_name
from joinpast.sampling import sampled, taken_apart, woven
from joinpast.shortest import shortest


def blocked(family, count):
    """Return the family of all block rows."""
    names = checked_names(family.rows, count)
    first, ends, sequences = sampled(family, count)
    entries = [sequence[at::count] for sequence in sequences for at in range(count)]
    return Family(names, first, entries, before=ends[0], after=ends[1])


def unblocked(family, count):
    """Return the family whose blocked family is this one."""
    rows = sorted({name[:-2] for name in family.rows})
    names = [[block_name(row, at) for at in range(count)] for row in rows]
    if not all([is_row_name(row) for row in rows]):
        raise NotBlocked(count)
    if sorted([name for named in names for name in named]) != list(family.rows):
        raise NotBlocked(count)
    return woven(rows, names, family)


def blocked_book(book, count):
    """Return the book that the blocked families keep."""
    names = checked_names(book.rows, count)
    rules = [
        [(block_name(row, at), shift, factor) for row, at, shift, factor in terms]
        for rule in shortest(book)
        for terms in taken_apart(rule, count)
    ]
    return least_book(names, rules)


def block_name(row, at):
    """Return the name of a block row."""
    return row + "x" + str(at)


def checked_names(rows, count):
    """Return the names of all block rows if they are row names."""
    names = [block_name(row, at) for row in rows for at in range(count)]
    for name in names:
        if not is_row_name(name):
            raise BadName(name)
    return names
