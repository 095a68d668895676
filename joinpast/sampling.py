"""Families of which every second, third .. place is taken, and back again."""

from joinpast.determinants import determinant
from joinpast.families import Family, settled_from, settled_until
from joinpast.plainpolys import cleaned, normal
from joinpast.polynomials import span


def sampled_polynomial(p, count):
    """Return a polynomial by which every `count`-th entry of what goes by p goes.

    With all its shifts multiplied by `count` it is a product with p: the
    determinant of what p becomes at each place of a block.
    """
    lines = []
    for terms in taken_apart([("", shift, factor) for shift, factor in p], count):
        columns = [[] for _ in range(count)]
        for _, at, shift, factor in terms:
            columns[at].append((shift, factor))
        lines.append([cleaned(column) for column in columns])
    return normal(determinant(lines))


def sampled(family, count):
    """Return the first place, both polynomials and sequences of a sampled family.

    For each row, the sequence has `count` entries for each new place.
    """
    before = sampled_polynomial(family.before, count)
    after = sampled_polynomial(family.after, count)
    first = settled_until(family) // count - span(before)
    settled = -(-settled_from(family) // count)
    length = max(settled + span(after) - first, span(before), span(after))
    return first, (before, after), family.window(count * first, count * length)


def spread_out(p, count):
    """Return the polynomial with all shifts multiplied."""
    return tuple([(count * shift, coefficient) for shift, coefficient in p])


def woven(rows, names, family):
    """Return the family whose entries stand, one after the other, in several rows.

    For each of the rows, `names` has the names of the rows in which the family
    has its entries.
    """
    count = len(names[0])
    sequences = dict(zip(family.rows, family.entries))
    entries = []
    for named in names:
        parts = [sequences[name] for name in named]
        entries.append([entry for column in zip(*parts) for entry in column])
    return Family(
        rows, count * family.first, entries,
        before=spread_out(family.before, count), after=spread_out(family.after, count),
    )


def taken_apart(terms, count):
    """Return what a sum becomes at each place of a block.

    For each index in the block, these are tuples of a row, its index in the
    block, the shift of blocks and the coefficient.
    """
    return [
        [(row, (at + shift) % count, (at + shift) // count, factor) for row, shift, factor in terms]
        for at in range(count)
    ]
