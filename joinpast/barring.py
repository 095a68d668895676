"""What bars joints: sums that follow from a book and leave a gap out."""

from joinpast.errors import Broken
from joinpast.keeping import first_break
from joinpast.linear import stepped
from joinpast.ratios import ZERO, over, weighted
from joinpast.rowsets import require_same_rows
from joinpast.shortest import shortest
from joinpast.spotlines import lines_at, sum_at
from joinpast.sums import moved_sum, reach


def require_kept(book, family):
    """Raise an error if the family does not keep the book."""
    broken = first_break(book, family)
    if broken is not None:
        raise Broken(broken[0], broken[1])


def require_joinable(book, past, future):
    """Raise an error unless both families keep the book."""
    require_same_rows(book.rows, past.rows)
    require_same_rows(book.rows, future.rows)
    require_kept(book, past)
    require_kept(book, future)


def gap_rules(book, gap):
    """Return the shortest rules where they reach over an end of the gap.

    The gap has the places 0 to `gap - 1`. In a joint, these rules are all that
    has to hold beside what holds in the past and in the future.
    """
    rules = shortest(book)
    farthest = max([reach(rule) for rule in rules], default=0)
    return [
        moved_sum(rule, by)
        for by in range(-farthest, gap)
        for rule in rules
        if by + reach(rule) >= 0
    ]


def gap_lines(book, gap):
    """Return spots, a dict of lines that begin in the gap, and bars.

    The spots of the gap stand first. All bars there are follow from these bars
    and from what follows in the past alone and in the future alone.
    """
    rules = gap_rules(book, gap)
    inside = [(row, at) for at in range(gap) for row in book.rows]
    outside = sorted({term[:2] for rule in rules for term in rule if not 0 <= term[1] < gap})
    spots = inside + outside
    steps, rests = stepped(lines_at(spots, rules), len(inside))
    return spots, steps, [sum_at(spots, rest) for rest in rests]


def outer_entries(spots, past, future, place):
    """Return a dict of entries: the past before the place, the future behind."""
    shifts = [shift for _, shift in spots]
    low = min(shifts + [0])
    high = max(shifts + [0])
    left = dict(zip(past.rows, past.window(place + low, -low)))
    right = dict(zip(future.rows, future.window(place, high + 1)))
    return {
        (row, shift): left[row][shift - low] if shift < 0 else right[row][shift]
        for row, shift in spots
    }


def outer_value(terms, entries):
    """Return the sum of the coefficients times the entries at their spots."""
    return weighted([term[2] for term in terms], [entries[term[:2]] for term in terms])


def first_bar(bars, entries):
    """Return the first of the sums that is not 0 with these entries, or None."""
    for bar in bars:
        if outer_value(bar, entries) != ZERO:
            return bar
    return None


def outer_spots(spots, gap):
    """Return the spots before and behind the gap."""
    return [spot for spot in spots if not 0 <= spot[1] < gap]


def has_joint(book, past, future, place, gap):
    """Tell whether two families that keep the book have a joint."""
    spots, _, bars = gap_lines(book, gap)
    entries = outer_entries(outer_spots(spots, gap), past, future, place)
    return first_bar(bars, entries) is None


def fitted(spots, steps, entries):
    """Return the entries, and those in the gap with which all lines hold.

    What the lines leave open is 0 and does not stand in the answer.
    """
    found = dict(entries)
    for column in sorted(steps, reverse=True):
        line = steps[column]
        others = [at for at in line if at != column]
        held = [found.get(spots[at], ZERO) for at in others]
        found[spots[column]] = over(weighted([line[at] for at in others], held), -line[column])
    return found
