"""Families that go on from a window."""

from joinpast.continuing import gone_on, most_of
from joinpast.errors import CannotStand
from joinpast.families import Family
from joinpast.plainpolys import ONE
from joinpast.ratios import ZERO
from joinpast.shortest import shortest
from joinpast.sums import reach
from joinpast.tails import mirrored, plain_window
from joinpast.windows import window_break


def completed(book, window, *, place=0):
    """Return a family that keeps the book and has the window at a place."""
    broken = window_break(book, window)
    if broken is not None:
        raise CannotStand(broken)
    plain = plain_window(window)
    columns = [list(column) for column in zip(*plain)]
    schemes = schemes_of(book)
    right, after = continued(schemes, len(book.rows), columns)
    known = columns + right
    left, before = continued([scheme[::-1] for scheme in schemes], len(book.rows), known[::-1])
    held = left[::-1] + known
    entries = [[column[at] for column in held] for at in range(len(book.rows))]
    return Family(book.rows, place - len(left), entries, before=mirrored(before), after=after)


def schemes_of(book):
    """Return the shortest rules as schemes."""
    return [scheme_of(book.rows, rule) for rule in shortest(book)]


def scheme_of(rows, rule):
    """Return the coefficients of a rule: for each shift those of all rows."""
    found = {(row, shift): coefficient for row, shift, coefficient in rule}
    return [[found.get((row, at), 0) for row in rows] for at in range(reach(rule) + 1)]


def continued(schemes, width, columns):
    """Return further columns and the polynomial by which these go on."""
    zeros = [[ZERO for _ in schemes] for _ in range(most_of(schemes, ONE))]
    return gone_on(schemes, width, columns, zeros, ONE)
