"""Finite families as sums of moved pulses."""

from joinpast.barring import require_kept
from joinpast.errors import BadParts, NotFinite
from joinpast.families import Family
from joinpast.linear import line_of, reduced
from joinpast.pulses import pulses
from joinpast.ratios import ZERO, over, plus, times, weighted
from joinpast.rowsets import require_same_rows


def pulse_parts(book, family):
    """Return the factors of the moved pulses of a finite family.

    What the pulses have at place 0 is independent, so the first entries of a
    family tell the factors of the pulses that begin there.
    """
    require_same_rows(book.rows, family.rows)
    require_kept(book, family)
    if not family.is_finite:
        raise NotFinite()
    found = pulses(book)
    parts = [[] for _ in found]
    low, high = family.extent() or (0, 0)
    rest = family.window(low, high - low + 1)
    solution = first_factors(found, len(book.rows))
    for at in range(high - low + 1):
        held = [entries[at] for entries in rest]
        for index, numbers, bottom in solution:
            factor = over(weighted(numbers, held), bottom)
            if factor != ZERO:
                parts[index].append((low + at, factor))
                rest = without_pulse(rest, at, found[index], factor)
    return tuple([tuple(pairs) for pairs in parts])


def first_factors(found, width):
    """Return how the entries at one place tell the factors of the pulses.

    Each item is an index of a pulse, whole numbers and another one: the
    factor of this pulse is the sum of these numbers times the entries, over
    the other number.
    """
    columns = [[entries[0][0] for entries in pulse.entries] for pulse in found]
    lines = [
        {**line_of([column[row] for column in columns]), len(found) + row: 1} for row in range(width)
    ]
    return [
        (index, [line.get(len(found) + row, 0) for row in range(width)], line[index])
        for index, line in reduced(lines, len(found))
    ]


def without_pulse(rest, at, pulse, factor):
    """Return the rest less the pulse, moved by `at` and times the factor."""
    less = times(factor, -1)
    width = len(pulse.entries[0])
    found = []
    for entries, held in zip(rest, pulse.entries):
        changed = [plus(entries[at + by], times(less, held[by])) for by in range(width)]
        found.append(list(entries[:at]) + changed + list(entries[at + width:]))
    return found


def from_pulses(book, parts):
    """Return the sum of the moved pulses times their factors."""
    found = pulses(book)
    if len(parts) != len(found):
        raise BadParts(len(parts))
    total = Family.zero(book.rows)
    for pulse, pairs in zip(found, parts):
        for by, factor in pairs:
            total = total + pulse.moved(by).scaled(factor)
    return total
