"""Which wishes can be switched on behind each past."""

from joinpast.barring import fitted, gap_rules, outer_entries, outer_value, require_kept
from joinpast.completing import completed
from joinpast.errors import Barred
from joinpast.linear import stepped
from joinpast.pulses import pulse_vectors
from joinpast.ratios import ZERO
from joinpast.rowsets import require_same_rows
from joinpast.shortening import measured, mended
from joinpast.shortest import shortest
from joinpast.splices import spliced
from joinpast.spotlines import lines_at, sum_at
from joinpast.steering import steerable_part
from joinpast.sums import moved_sum, part_of, reach
from joinpast.windows import fitting_rules
from joinpast.wishes import inner_book, outer_rule, require_stricter


class Switch:
    """The least gap with which a wish can be switched on, or what forbids it."""

    def __init__(self, gap, bound):
        self.gap = gap
        self.bound = bound


def switch(book, wish):
    """Return the least gap that does behind all pasts, or an unchangeable sum.

    Such a sum follows from the wish but not from the book. It comes from the
    rules of the wish, and so it is an unchangeable sum of the inner book.
    """
    require_stricter(book, wish)
    if book == wish:
        return Switch(0, None)
    rules = shortest(wish)
    inner = inner_book(book, rules)
    for rule in steerable_part(inner).rules:
        if rule not in inner:
            return Switch(None, outer_rule(rules, [part_of(rule, row) for row in inner.rows]))
    return Switch(greatest_gap(inner, [reach(rule) for rule in rules]), None)


def greatest_gap(inner, lengths):
    """Return the least gap for a steerable inner book and the reaches of the rules.

    A sum that follows from the wish and has only shifts less than 0 consists
    of rules of the wish that end there. So the course of a rule is known up to
    its reach before the gap, and only the rest of the gap is left to steer it.
    """
    longest = max(lengths)
    above = [longest - each for each in lengths]
    below = [0 for _ in lengths]
    found = pulse_vectors(inner)
    better = found
    while better is not None:
        found = better
        better = mended(found, above, below)
    return max([measured(vector, above, below)[0] - longest for vector in found] + [0])


def switched(book, wish, past, *, place=0, gap):
    """Return a joint of the past with a future that keeps the wish, and this future."""
    require_stricter(book, wish)
    require_same_rows(book.rows, past.rows)
    require_kept(book, past)
    far = max([reach(rule) for rule in shortest(book)], default=0)
    spots, lines = switch_lines(book, wish, gap, far)
    steps, rests = stepped(lines, (gap + far) * len(book.rows))
    entries = outer_entries([spot for spot in spots if spot[1] < 0], past, past, place)
    for rest in rests:
        bar = sum_at(spots, rest)
        if outer_value([term for term in bar if term[1] < 0], entries) != ZERO:
            raise Barred(bar)
    found = fitted(spots, steps, entries)
    middle = [[found.get((row, at), ZERO) for at in range(gap)] for row in book.rows]
    window = [[found.get((row, gap + at), ZERO) for at in range(far)] for row in book.rows]
    future = completed(wish, window, place=place + gap)
    return (spliced(past, future, place, middle=middle), future)


def switch_lines(book, wish, gap, far):
    """Return spots, and lines that hold in the gap and `far` places behind it.

    The spots of these places stand first, then those of the past. The rules of
    the wish are written down once more, with the other sign, at the marked
    spots: these count as 0, but what is left at them is the future part of a bar.
    """
    rules = gap_rules(book, gap)
    inside = [(row, at) for at in range(gap + far) for row in book.rows]
    before = sorted({term[:2] for rule in rules for term in rule if term[1] < 0})
    marked = [(row, gap + at, "future") for at in range(far) for row in book.rows]
    spots = inside + before + marked
    columns = {spots[at]: at for at in range(len(spots))}
    lines = lines_at(spots, rules)
    asked = [moved_sum(rule, gap) for rule in fitting_rules(wish, far)]
    for terms, line in zip(asked, lines_at(spots, asked)):
        marks = {columns[(row, at, "future")]: -factor for row, at, factor in terms}
        lines.append({**line, **marks})
    return spots, lines
