"""Values and courses of sums in families."""

from joinpast.errors import BadName
from joinpast.families import Family
from joinpast.rowsets import is_row_name
from joinpast.sums import ordered, part_of, rows_of, shift_bounds
from joinpast.tails import slid


def value(family, terms, place):
    """Return the value of a sum at a place."""
    return course(family, terms).entry("sum", place)


def course(family, terms, *, name="sum"):
    """Return the family with one row that has the values of a sum."""
    if not is_row_name(name):
        raise BadName(name)
    plain = ordered(terms)
    rows = rows_of(plain)
    if not plain:
        return Family.zero([name])
    low, high = shift_bounds(plain)
    first = family.first - high
    length = len(family.entries[0]) + high - low
    held = family.only(rows).window(first + low, length + high - low)
    entries = slid([part_of(plain, row) for row in rows], held, low, length)
    return Family([name], first, [entries], before=family.before, after=family.after)
