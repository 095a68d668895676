"""Families that go on from a window."""

from joinpast.errors import CannotStand
from joinpast.families import Family
from joinpast.linear import line_of, reduced
from joinpast.ratios import ZERO, over, weighted
from joinpast.selfgoing import tail_polynomial
from joinpast.shortest import shortest
from joinpast.sums import reach
from joinpast.tails import mirrored, plain_window
from joinpast.windows import window_break


def completed(book, window, *, place=0):
    """Return a family that keeps the book and has the window at a place."""
    broken = window_break(book, window)
    if broken is not None:
        raise CannotStand(broken)
    plain = plain_window(window)
    columns = [list(column) for column in zip(*plain)]
    schemes = [scheme_of(book.rows, rule) for rule in shortest(book)]
    right, after = continued(schemes, len(book.rows), columns)
    known = columns + right
    left, before = continued([scheme[::-1] for scheme in schemes], len(book.rows), known[::-1])
    held = left[::-1] + known
    entries = [[column[at] for column in held] for at in range(len(book.rows))]
    return Family(book.rows, place - len(left), entries, before=mirrored(before), after=after)


def scheme_of(rows, rule):
    """Return the coefficients of a rule: for each shift those of all rows."""
    found = {(row, shift): coefficient for row, shift, coefficient in rule}
    return [[found.get((row, at), 0) for row in rows] for at in range(reach(rule) + 1)]


def continued(schemes, width, columns):
    """Return further columns and the polynomial by which these go on.

    The rules are independent at their ends. So in each new column they fix
    as many rows as there are rules, and the other rows may be 0. Columns in
    front of the first one count as 0 here; a rule that reaches over them may
    be kept by other columns there as well.
    """
    depth = max([len(scheme) - 1 for scheme in schemes], default=0)
    most = sum([len(scheme) - 1 for scheme in schemes])
    solution = end_solution(schemes, width)
    known = list(columns)
    for _ in range(depth + most):
        known.append(next_column(schemes, solution, width, known))
    found = known[len(columns):]
    after = tail_polynomial(found, depth, most)
    return found[:most], after


def end_solution(schemes, width):
    """Return how the ends of the rules fix some rows.

    Each item is the index of a row and a line: the entry of this row, times
    the number at this index, is the sum of the numbers behind `width` times
    the values that the rules ask for.
    """
    lines = [
        {**line_of(schemes[at][-1]), width + at: 1} for at in range(len(schemes))
    ]
    return reduced(lines, width)


def next_column(schemes, solution, width, columns):
    """Return a column behind the others with which the rules hold."""
    asked = [left_over(scheme, columns) for scheme in schemes]
    found = [ZERO for _ in range(width)]
    for row, line in solution:
        factors = [line.get(width + at, 0) for at in range(len(schemes))]
        found[row] = over(weighted(factors, asked), -line[row])
    return found


def left_over(scheme, columns):
    """Return the value of a rule that ends behind the columns, without its end."""
    start = len(columns) - len(scheme) + 1
    factors = []
    held = []
    for at in range(max(0, -start), len(scheme) - 1):
        factors.extend(scheme[at])
        held.extend(columns[start + at])
    return weighted(factors, held)
