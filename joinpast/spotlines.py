"""Sums as lines of numbers: each column is a spot, a pair of a row and a place."""

from joinpast.sums import ordered


def lines_at(spots, sums):
    """Return the lines of sums whose terms all stand at one of the spots."""
    columns = {spots[at]: at for at in range(len(spots))}
    return [
        {columns[(row, shift)]: coefficient for row, shift, coefficient in terms} for terms in sums
    ]


def sum_at(spots, line):
    """Return the sum of a line."""
    return ordered([(spots[at][0], spots[at][1], line[at]) for at in line])
