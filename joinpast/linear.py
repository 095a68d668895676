"""Linear equations in whole numbers.

A line is a dict from columns to whole numbers other than 0.
"""

from math import gcd


def line_of(numbers):
    """Return the line of a sequence of whole numbers."""
    return {column: numbers[column] for column in range(len(numbers)) if numbers[column] != 0}


def lighter(line):
    """Return the line divided by what its numbers have in common."""
    shared = 0
    for column in line:
        shared = gcd(shared, line[column])
        if shared == 1:
            return line
    return {column: line[column] // shared for column in line}


def eliminated(line, other, column):
    """Return a multiple of the line minus one of the other, 0 in the column."""
    shared = gcd(line[column], other[column])
    keep = other[column] // shared
    take = line[column] // shared
    found = {at: keep * line[at] for at in line}
    for at in other:
        found[at] = found.get(at, 0) - take * other[at]
    return lighter({at: found[at] for at in found if found[at] != 0})


def leading(line, width):
    """Return the first column of the line, or None if none is before width."""
    if not line:
        return None
    least = min(list(line))
    return least if least < width else None


def descended(line, steps, width):
    """Return the line, changed until no step begins in its first column."""
    rest = lighter(line)
    column = leading(rest, width)
    while column is not None and column in steps:
        rest = eliminated(rest, steps[column], column)
        column = leading(rest, width)
    return rest


def stepped(lines, width):
    """Return a dict from columns to the lines that begin there, and the rest.

    The rest are the lines without a number before `width`, except empty ones.
    """
    steps = {}
    rests = []
    for line in lines:
        rest = descended(line, steps, width)
        column = leading(rest, width)
        if column is not None:
            steps[column] = rest
        elif rest:
            rests.append(rest)
    return steps, rests


def reduced(lines, width):
    """Return pairs of a column and the line that begins there, ascending.

    No other line has a number in this column. Lines without a number before
    `width` are left out.
    """
    steps, _ = stepped(lines, width)
    done = {}
    for column in sorted(steps, reverse=True):
        rest = steps[column]
        behind = [at for at in sorted(rest) if at in done]
        for at in behind:
            rest = eliminated(rest, done[at], at)
        done[column] = rest
    return [(column, done[column]) for column in sorted(done)]


def first_dependence(vectors):
    """Return the factors with which the first vectors give only zeros.

    These are as few of the first vectors as possible, and the factor of the
    last one is not 0. Return None if there are no such factors.
    """
    width = max([len(vector) for vector in vectors], default=0)
    steps = {}
    for index in range(len(vectors)):
        line = {**line_of(vectors[index]), width + index: 1}
        rest = descended(line, steps, width)
        column = leading(rest, width)
        if column is None:
            return [rest.get(width + at, 0) for at in range(index + 1)]
        steps[column] = rest
    return None
