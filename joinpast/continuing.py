"""Columns that go on such that rules hold: a column has one entry for each row.

A scheme is a rule as a list of lists: for each shift from 0 on it has the
coefficients of all rows. The schemes that are passed are independent at their
ends, so in each new column they fix as many rows as there are schemes, and the
other rows are 0.
"""

from joinpast.determinants import determinant
from joinpast.leasttails import least_tail
from joinpast.linear import line_of, reduced
from joinpast.plainpolys import normal, product_of, spread
from joinpast.ratios import ZERO, over, plus, times, weighted


def most_of(schemes, p):
    """Return how many columns are needed to see how they go on.

    What the schemes should be goes on by the normal polynomial p.
    """
    return sum([len(scheme) - 1 for scheme in schemes]) + spread(p)


def gone_on(schemes, width, columns, values, p):
    """Return further columns and the polynomial by which these go on.

    An item of `values` has, for each scheme, the value that it should have
    where it ends at a new column. The last ones, as many as `most_of` tells,
    go on by p. Columns in front of the first one count as 0; a rule that
    reaches over them may be kept by other columns there as well.

    p applied to the new columns makes the schemes 0, and then so does their
    determinant in the rows that they fix.
    """
    solution = end_solution(schemes, width)
    known = list(columns)
    for wanted in values:
        known.append(next_column(schemes, solution, width, known, wanted))
    found = known[len(columns):]
    fixed = [row for row, _ in solution]
    whole = product_of(determinant([[part_at(scheme, row) for row in fixed] for scheme in schemes]), p)
    start = len(found) - most_of(schemes, p) + whole[0][0]
    tail = found[start:start + spread(whole)]
    return found, least_tail([[column[row] for column in tail] for row in range(width)], normal(whole))


def part_at(scheme, row):
    """Return the polynomial of a scheme in one row."""
    return tuple([(at, scheme[at][row]) for at in range(len(scheme)) if scheme[at][row] != 0])


def end_solution(schemes, width):
    """Return how the ends of the schemes fix some rows.

    Each item is the index of a row and a line: the entry of this row, times
    the number at this index, is the sum of the numbers behind `width` times
    the values that the ends should have.
    """
    lines = [
        {**line_of(schemes[at][-1]), width + at: 1} for at in range(len(schemes))
    ]
    return reduced(lines, width)


def next_column(schemes, solution, width, columns, wanted):
    """Return a column behind the others with which the schemes have the values."""
    lacking = [
        plus(value, times(left_over(scheme, columns), -1)) for scheme, value in zip(schemes, wanted)
    ]
    found = [ZERO for _ in range(width)]
    for row, line in solution:
        factors = [line.get(width + at, 0) for at in range(len(schemes))]
        found[row] = over(weighted(factors, lacking), line[row])
    return found


def left_over(scheme, columns):
    """Return the value of a scheme that ends behind the columns, without its end."""
    start = len(columns) - len(scheme) + 1
    factors = []
    held = []
    for at in range(max(0, -start), len(scheme) - 1):
        factors.extend(scheme[at])
        held.extend(columns[start + at])
    return weighted(factors, held)
