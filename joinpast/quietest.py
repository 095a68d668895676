"""The joint whose entries in the gap have the least sum of squares."""

from joinpast.barring import gap_rules, outer_entries, outer_spots, outer_value
from joinpast.errors import Barred
from joinpast.joins import join
from joinpast.linear import reduced
from joinpast.ratios import ZERO, fraction, times, weighted, without_bottoms
from joinpast.splices import spliced


def quietest(book, past, future, *, place=0, gap=0):
    """Return the joint whose entries in the gap have the least sum of squares."""
    joining = join(book, past, future, place=place, gap=gap)
    if joining.bar is not None:
        raise Barred(joining.bar)
    rules = gap_rules(book, gap)
    spots = outer_spots([term[:2] for rule in rules for term in rule], gap)
    entries = outer_entries(spots, past, future, place)
    inner = [[term for term in rule if 0 <= term[1] < gap] for rule in rules]
    outer = [[term for term in rule if not 0 <= term[1] < gap] for rule in rules]
    found = least_squares(inner, [times(outer_value(terms, entries), -1) for terms in outer])
    middle = [[found.get((row, at), ZERO) for at in range(gap)] for row in book.rows]
    return spliced(past, future, place, middle=middle)


def least_squares(sums, values):
    """Return entries at spots with which the sums have the values.

    Of all such entries, those with the least sum of squares are the ones that
    are a sum of multiples of the sums themselves. Spots with 0 may be left out.
    """
    held = {}
    for index in range(len(sums)):
        for row, shift, factor in sums[index]:
            held.setdefault((row, shift), []).append((index, factor))
    weights = sum_weights(sums, held, values)
    return {spot: entry_of(held[spot], weights) for spot in held}


def entry_of(pairs, weights):
    """Return the sum of factors times weights, from pairs of an index and a factor."""
    return weighted([factor for _, factor in pairs], [weights[index] for index, _ in pairs])


def sum_weights(sums, held, values):
    """Return by which fractions the sums are multiplied to have the values.

    `held` has for each spot the indexes and the factors of the sums there.
    """
    whole = without_bottoms([[(1, 1)] + values])[0]
    lines = []
    for index in range(len(sums)):
        line = {len(sums): whole[index + 1]} if whole[index + 1] != 0 else {}
        for row, shift, factor in sums[index]:
            for other, times_other in held[(row, shift)]:
                line[other] = line.get(other, 0) + factor * times_other
        lines.append({column: line[column] for column in line if line[column] != 0})
    weights = [ZERO for _ in sums]
    for column, line in reduced(lines, len(sums)):
        weights[column] = fraction((line.get(len(sums), 0), line[column] * whole[0]))
    return weights
