"""Families and books of which only every second, third .. place is left."""

from joinpast.barring import require_kept
from joinpast.books import least_book
from joinpast.families import Family
from joinpast.forcing import forced
from joinpast.leastform import sum_of
from joinpast.plainpolys import cleaned
from joinpast.rowsets import require_same_rows
from joinpast.sampling import sampled, taken_apart, woven
from joinpast.shortest import shortest
from joinpast.syzygies import behind


def thinned(family, count):
    """Return the family whose entry at t is the one at count * t."""
    first, ends, sequences = sampled(family, count)
    entries = [sequence[::count] for sequence in sequences]
    return Family(family.rows, first, entries, before=ends[0], after=ends[1])


def thinned_book(book, count):
    """Return the book that the thinned families keep."""
    found = behind(block_vectors(book, count), (count - 1) * len(book.rows))
    return least_book(book.rows, [sum_of(book.rows, vector) for vector in found])


def refined(book, family, count):
    """Return a family that keeps the book and whose thinned family is this one."""
    require_same_rows(book.rows, family.rows)
    require_kept(thinned_book(book, count), family)
    if count == 1:
        return family
    width = len(book.rows)
    # The names stand in the order of the rows, however many these are.
    heads = ["e" + str(row).zfill(5) for row in range(width)]
    names = [[head + "x" + str(at) for at in range(count)] for head in heads]
    left_out = [names[row][at] for at in range(1, count) for row in range(width)]
    shown = Family(
        [named[0] for named in names], family.first, family.entries,
        before=family.before, after=family.after,
    )
    whole = forced(left_out, block_vectors(book, count), shown).beside(shown)
    return woven(book.rows, names, whole)


def block_vectors(book, count):
    """Return the rules of the blocked book as vectors.

    The columns stand in the order of the indexes in the block, but those with
    the index 0, which are left in a thinned family, stand last. For the same
    index they stand in the order of the rows.
    """
    columns = [(row, at) for at in range(1, count) for row in book.rows]
    columns = columns + [(row, 0) for row in book.rows]
    vectors = []
    for rule in shortest(book):
        for terms in taken_apart(rule, count):
            found = {column: [] for column in columns}
            for row, at, shift, factor in terms:
                found[(row, at)].append((shift, factor))
            vectors.append(tuple([cleaned(found[column]) for column in columns]))
    return vectors
