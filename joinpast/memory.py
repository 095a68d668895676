"""What of a past must be remembered to know its futures."""

from joinpast.completing import completed, schemes_of
from joinpast.continuing import gone_on, most_of
from joinpast.errors import BadParts
from joinpast.plainpolys import ONE
from joinpast.ratios import ZERO, fraction, times
from joinpast.shortest import reaches, shortest
from joinpast.sums import moved_sum, reach


def memory(book):
    """Return the sums of the past whose values at a place tell all futures.

    These are the past parts of the shortest rules that reach over the place: in
    each family, what stands in the future has just the opposite value.
    """
    return tuple([
        tuple([term for term in moved_sum(rule, -by) if term[1] < 0])
        for rule in shortest(book)
        for by in range(1, reach(rule) + 1)
    ])


def memory_size(book):
    """Return the number of the sums of the memory."""
    return sum(reaches(book))


def plain_values(book, values):
    """Return the values as fractions if there is one for each sum of the memory."""
    if len(values) != memory_size(book):
        raise BadParts(len(values))
    return tuple([fraction(value) for value in values])


def family_with_memory(book, values):
    """Return a family that keeps the book and has these values of the memory at 0.

    Its first places are found one after the other: a rule that reaches over
    place 0 must have the opposite of its remembered value in them.
    """
    held = plain_values(book, values)
    schemes = schemes_of(book)
    farthest = max([len(scheme) - 1 for scheme in schemes], default=0)
    wanted = [[ZERO for _ in schemes] for _ in range(farthest + most_of(schemes, ONE))]
    start = 0
    for index in range(len(schemes)):
        length = len(schemes[index]) - 1
        for by in range(1, length + 1):
            wanted[length - by][index] = times(held[start + by - 1], -1)
        start = start + length
    columns, _ = gone_on(schemes, len(book.rows), [], wanted, ONE)
    window = [[column[row] for column in columns[:farthest]] for row in range(len(book.rows))]
    return completed(book, window, place=0)
