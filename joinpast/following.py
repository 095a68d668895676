"""What follows from a book, with derivations and counterexamples."""

from joinpast.completing import completed
from joinpast.leastform import derived
from joinpast.linear import eliminated
from joinpast.rowsets import require_rows
from joinpast.sums import moved_sum, ordered, rows_of, shift_bounds, sum_plus, sum_times
from joinpast.windows import sum_line, window_lines


def derivation(book, terms):
    """Return a derivation of the sum from the given rules, or None."""
    plain = ordered(terms)
    require_rows(rows_of(plain), book.rows)
    if plain not in book:
        return None
    return derived(book.rows, book.given, plain)


def is_derivation(book, terms, paper):
    """Tell whether the pair is a derivation of the sum."""
    plain = ordered(terms)
    require_rows(rows_of(plain), book.rows)
    multiplier, factors = paper
    if multiplier < 1 or len(factors) != len(book.given):
        return False
    total = ()
    for factor, rule in zip(factors, book.given):
        total = sum_plus(total, sum_times(factor, rule))
    return total == sum_times([(0, multiplier)], plain)


def counterexample(book, terms):
    """Return a family that keeps the book but breaks the sum at 0, or None."""
    plain = ordered(terms)
    require_rows(rows_of(plain), book.rows)
    if plain in book:
        return None
    low, high = shift_bounds(plain)
    window = telling_window(book, moved_sum(plain, -low), high - low + 1)
    return completed(book, window, place=low)


def telling_window(book, terms, length):
    """Return a window that can stand and in which the sum is not 0.

    What is left of the sum behind all window rules has no column in which a
    rule begins. One of its columns becomes 1, the others 0, and the columns in
    which the rules begin become what the rules ask for.
    """
    lines = window_lines(book, length)
    rest = sum_line(book.rows, terms)
    for column, line in lines:
        if column in rest:
            rest = eliminated(rest, line, column)
    chosen = min(list(rest))
    held = {chosen: 1}
    for column, line in lines:
        held[column] = (-line.get(chosen, 0), line[column])
    width = len(book.rows)
    return [[held.get(at * width + row, 0) for at in range(length)] for row in range(width)]
