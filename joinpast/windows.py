"""Which windows can stand in a book."""

from joinpast.linear import reduced
from joinpast.ratios import ZERO, weighted
from joinpast.shortest import reaches, shortest
from joinpast.sums import moved_sum, ordered, reach
from joinpast.tails import plain_window, require_even


def window_rules(book, length):
    """Return the sums that are 0 in the windows that can stand, and only there."""
    return tuple([
        leading_positive(book.rows, column, line) for column, line in window_lines(book, length)
    ])


def can_stand(book, window):
    """Tell whether some family that keeps the book has this window."""
    return window_break(book, window) is None


def window_break(book, window):
    """Return the first of the window rules that the window breaks, or None."""
    require_even(len(book.rows), window)
    plain = plain_window(window)
    if not any([window_value(book.rows, plain, rule) != ZERO for rule in fitting_rules(book, len(plain[0]))]):
        return None
    for rule in window_rules(book, len(plain[0])):
        if window_value(book.rows, plain, rule) != ZERO:
            return rule
    return None


def window_freedom(book, length):
    """Return how many independent windows of this length can stand."""
    fixed = [length - each for each in reaches(book) if each < length]
    return len(book.rows) * length - sum(fixed)


def fitting_rules(book, length):
    """Return the shortest rules at all places where they fit into a window.

    All sums that follow from the book and fit into the window are sums of
    multiples of these.
    """
    return [
        moved_sum(rule, by)
        for rule in shortest(book)
        for by in range(length - reach(rule))
    ]


def window_value(rows, window, terms):
    """Return the value at place 0 of a sum in a window from place 0 on."""
    held = [window[rows.index(row)][shift] for row, shift, _ in terms]
    return weighted([term[2] for term in terms], held)


def window_lines(book, length):
    """Return the window rules as pairs of a first column and a line.

    The columns stand in the order of the places, and for the same place in the
    order of the rows.
    """
    lines = [sum_line(book.rows, rule) for rule in fitting_rules(book, length)]
    return reduced(lines, len(book.rows) * length)


def sum_line(rows, terms):
    """Return the line of a sum with shifts from 0 on."""
    return {
        shift * len(rows) + rows.index(row): coefficient
        for row, shift, coefficient in terms
    }


def leading_positive(rows, column, line):
    """Return the sum of a line, or its negative, with a positive first number."""
    sign = 1 if line[column] > 0 else -1
    return ordered([
        (rows[at % len(rows)], at // len(rows), sign * line[at]) for at in line
    ])
