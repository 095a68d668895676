"""Free rows that tell, place by place, the entries of all rows."""

from joinpast.completing import continued, schemes_of
from joinpast.continuing import gone_on, most_of
from joinpast.errors import NotFree, NotTimely
from joinpast.families import Family
from joinpast.freerows import leaves_free
from joinpast.hiding import other_rows
from joinpast.linear import first_dependence
from joinpast.plainpolys import ONE
from joinpast.ratios import ZERO
from joinpast.rowsets import chosen_rows, require_rows
from joinpast.shortest import shortest


def is_timely(book, chosen):
    """Tell whether the past and the chosen rows at a place tell all rows there."""
    return foreseen_column(book, free_rows(book, chosen)) is None


def foreseeing(book, chosen):
    """Return a family that begins at place 0, but not in the chosen rows, or None."""
    column = foreseen_column(book, free_rows(book, chosen))
    if column is None:
        return None
    right, after = continued(schemes_of(book), len(book.rows), [column])
    held = [column] + right
    entries = [[each[row] for each in held] for row in range(len(book.rows))]
    return Family(book.rows, 0, entries, after=after)


def response(book, chosen, row):
    """Return what follows if a single 1 is entered in one of the chosen rows."""
    return single_response(book, timely_rows(book, chosen, row), row)


def delay(book, chosen, row, by):
    """Return when the response first has an entry other than 0 in a row, or None."""
    free = timely_rows(book, chosen, row)
    require_rows([by], book.rows)
    extent = single_response(book, free, row).only([by]).extent()
    return None if extent is None else extent[0]


def free_rows(book, chosen):
    """Return chosen rows in ascending order if they are one of the free sets."""
    free = chosen_rows(chosen, book.rows)
    if len(free) != book.free_count or not leaves_free(book.rows, shortest(book), free):
        raise NotFree(free)
    return free


def timely_rows(book, chosen, row):
    """Return chosen rows in ascending order if they are timely and have the row."""
    free = free_rows(book, chosen)
    if foreseen_column(book, free) is not None:
        raise NotTimely(free)
    require_rows([row], free)
    return free


def foreseen_column(book, free):
    """Return a first column that is 0 in the free rows but not elsewhere, or None.

    Behind zeros only, a column is possible if the ends of the shortest rules
    are 0 in it.
    """
    schemes = schemes_of(book)
    others = [at for at in range(len(book.rows)) if book.rows[at] not in free]
    factors = first_dependence([[scheme[-1][at] for scheme in schemes] for at in others])
    if factors is None:
        return None
    column = [ZERO for _ in book.rows]
    for at, factor in zip(others, factors):
        column[at] = (factor, 1)
    return column


def single_response(book, free, row):
    """Return the response for timely rows.

    Where a rule ends, it has in the other rows the opposite of what the single
    entry 1 adds.
    """
    others = other_rows(book.rows, free)
    entered = Family.pulse(free, row)
    if not others:
        return entered
    schemes = schemes_of(book)
    index = book.rows.index(row)
    places = [at for at in range(len(book.rows)) if book.rows[at] in others]
    parts = [[[numbers[at] for at in places] for numbers in scheme] for scheme in schemes]
    pushes = [[(-numbers[index], 1) for numbers in scheme[::-1]] for scheme in schemes]
    count = max([len(scheme) for scheme in schemes]) + most_of(parts, ONE)
    wanted = [[push[at] if at < len(push) else ZERO for push in pushes] for at in range(count)]
    columns, after = gone_on(parts, len(others), [], wanted, ONE)
    entries = [[column[at] for column in columns] for at in range(len(others))]
    return Family(others, 0, entries, after=after).beside(entered)
