"""What a finite stretch of a family tells."""

from joinpast.books import least_book
from joinpast.errors import CannotStand, TooLong
from joinpast.leastform import sum_of, vector_of
from joinpast.linear import stepped
from joinpast.ratios import without_bottoms
from joinpast.rowsets import row_set
from joinpast.sums import ordered
from joinpast.syzygies import short_vectors
from joinpast.tails import plain_window, require_even
from joinpast.windows import window_break, window_freedom


def read_off(rows, stretch, *, longest):
    """Return the book of all sums up to this length that are 0 in the stretch.

    Each row and shift has a line of what it adds to the value at each place.
    What is left if these lines cancel each other is a sum that is 0.
    """
    named = row_set(rows)
    require_even(len(named), stretch)
    count = len(stretch[0]) - longest
    if count <= 0:
        raise TooLong(longest)
    whole = without_bottoms(plain_window(stretch))
    spots = [(row, shift) for shift in range(longest + 1) for row in range(len(named))]
    lines = []
    for index in range(len(spots)):
        row, shift = spots[index]
        held = whole[row][shift:shift + count]
        line = {at: held[at] for at in range(count) if held[at] != 0}
        lines.append({**line, count + index: 1})
    _, rests = stepped(lines, count)
    sums = [
        ordered([(named[spots[at - count][0]], spots[at - count][1], rest[at]) for at in rest])
        for rest in rests
    ]
    found = short_vectors([vector_of(named, terms) for terms in sums], len(named))
    return least_book(named, [sum_of(named, vector) for vector in found])


def stretch_shows(book, stretch, length):
    """Tell whether all windows come from windows that the stretch contains."""
    broken = window_break(book, stretch)
    if broken is not None:
        raise CannotStand(broken)
    return contained_count(stretch, length) == window_freedom(book, length)


def liveliness(stretch):
    """Return the greatest length of which all windows come from those contained."""
    require_even(len(stretch), stretch)
    depth = 0
    while contained_count(stretch, depth + 1) == len(stretch) * (depth + 1):
        depth += 1
    return depth


def contained_count(stretch, length):
    """Return how many independent windows of this length the stretch contains."""
    whole = without_bottoms(plain_window(stretch))
    lines = []
    for start in range(len(whole[0]) - length + 1):
        numbers = [entry for sequence in whole for entry in sequence[start:start + length]]
        lines.append({at: numbers[at] for at in range(len(numbers)) if numbers[at] != 0})
    steps, _ = stepped(lines, len(whole) * length)
    return len(steps)
