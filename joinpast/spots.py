"""Entries at some spots that fix the entries at others."""

from joinpast.completing import completed
from joinpast.errors import SpotTwice
from joinpast.linear import reduced
from joinpast.rowsets import require_rows
from joinpast.spotlines import lines_at, sum_at
from joinpast.sums import moved_sum
from joinpast.windows import fitting_rules


def fixing(book, known, wanted):
    """Return a formula for the wanted spot from known spots, or None."""
    spots = checked_spots(book, known, wanted)
    columns, lines = spot_lines(book, spots)
    fixed = {columns[column]: line for column, line in lines}
    if spots[-1] not in fixed:
        return None
    terms = sum_at(columns, fixed[spots[-1]])
    times = sum([term[2] for term in terms if term[:2] == spots[-1]])
    sign = -1 if times > 0 else 1
    rest = [(row, place, sign * factor) for row, place, factor in terms if (row, place) != spots[-1]]
    return (abs(times), tuple(rest))


def unfixed(book, known, wanted):
    """Return a family with zeros at the known spots and not at the wanted one.

    The wanted spot becomes 1, all others that are free become 0, and those in
    which the lines begin become what the lines ask for.
    """
    spots = checked_spots(book, known, wanted)
    columns, lines = spot_lines(book, spots)
    if spots[-1] in [columns[column] for column, _ in lines]:
        return None
    chosen = len(columns) - len(spots)
    held = {spots[-1]: 1}
    for column, line in lines:
        held[columns[column]] = (-line.get(chosen, 0), line[column])
    low, length = bounds_of(spots)
    window = [[held.get((row, low + at), 0) for at in range(length)] for row in book.rows]
    return completed(book, window, place=low)


def free_spots(book, spots):
    """Return the spots that are not fixed by those that were kept before."""
    plain = different(spots)
    require_rows([row for row, _ in plain], book.rows)
    if not plain:
        return ()
    columns, lines = spot_lines(book, plain)
    fixed = [columns[column] for column, _ in lines]
    return tuple([spot for spot in plain if spot not in fixed])


def checked_spots(book, known, wanted):
    """Return the different known spots and behind them the wanted one."""
    plain = different(known)
    last = tuple(wanted)
    require_rows([row for row, _ in plain + [last]], book.rows)
    if last in plain:
        raise SpotTwice(last[0], last[1])
    return plain + [last]


def different(spots):
    """Return the spots as tuples, each of them once."""
    found = {tuple(spot): True for spot in spots}
    return list(found)


def bounds_of(spots):
    """Return the least place and the number of places up to the greatest one."""
    places = [place for _, place in spots]
    return min(places), max(places) - min(places) + 1


def spot_lines(book, spots):
    """Return columns, and pairs of a column and the line that begins there.

    The lines tell all that follows from the book about the window around the
    spots. The spots stand behind the rest of the window, the last one first:
    so a line that begins at a spot fixes it by spots before it.
    """
    low, length = bounds_of(spots)
    window = [(row, low + at) for at in range(length) for row in book.rows]
    columns = [spot for spot in window if spot not in spots] + spots[::-1]
    rules = [moved_sum(rule, low) for rule in fitting_rules(book, length)]
    return columns, reduced(lines_at(columns, rules), len(columns))
