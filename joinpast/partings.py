"""The shortest window that can stand in only one of two books."""

from joinpast.following import telling_window
from joinpast.rowsets import require_same_rows
from joinpast.shortest import shortest
from joinpast.sums import reach
from joinpast.tails import plain_window


def parting_window(one, two):
    """Return the number of the holder and a window, or None for equal books.

    All that a book asks of the windows of a length comes from those of its
    shortest rules that fit into this length.
    """
    require_same_rows(one.rows, two.rows)
    found = None
    for holder, (book, other) in enumerate([(one, two), (two, one)]):
        for rule in shortest(other):
            if rule not in book and (found is None or reach(rule) < found[0]):
                found = (reach(rule), holder, book, rule)
    if found is None:
        return None
    length, holder, book, rule = found
    return (holder, plain_window(telling_window(book, rule, length + 1)))
