"""What makes some columns of vectors zero, found by making them shorter."""

from math import gcd

from joinpast.shortening import measured
from joinpast.vectors import first_filled, mixed


def kernel(vectors, hidden):
    """Return vectors with zeros in the first `hidden` columns, without these.

    All such vectors that come from those that are passed come from these. Of
    two vectors with the same leading column, the end of the longer one is
    cancelled by the shorter one. At last all leading columns are different, so
    nothing but zero makes the hidden columns of what is left zero.
    """
    zeros = [0 for _ in range(hidden)]
    waiting = list(vectors)
    leads = {}
    found = []
    while waiting:
        vector = waiting.pop()
        if first_filled(vector, hidden) is None:
            found.append(vector[hidden:])
            continue
        item = measured(vector, zeros, zeros)
        column = leading_column(item, hidden)
        items = sorted([item, leads[column]] if column in leads else [item])
        leads[column] = items[0]
        if len(items) > 1:
            waiting.append(without_end(items[1], items[0], column))
    return found


def leading_column(item, hidden):
    """Return the first column of a measured vector that reaches its end."""
    length, _, vector = item
    return min([at for at in range(hidden) if vector[at] and vector[at][-1][0] == length])


def without_end(longer, shorter, column):
    """Return the longer vector with zero at its end in the column."""
    held = longer[2][column][-1][1]
    other = shorter[2][column][-1][1]
    shared = gcd(held, other)
    return mixed(other // shared, longer[2], ((longer[0] - shorter[0], held // shared),), shorter[2])
