"""The sums that are 0 at each place in given families."""

from joinpast.kernels import kernel
from joinpast.leastform import sum_of
from joinpast.plainpolys import product_of, spread
from joinpast.ratios import without_bottoms
from joinpast.sums import normal_rule, reach
from joinpast.syzygies import short_vectors, unit_vector
from joinpast.trimming import trimmed


def vanishing_rules(families):
    """Return shortest rules from which the sums follow that are 0 in the families.

    The families, of which there is at least one, have the same rows. Their
    entries from a first place on are a polynomial over the polynomial `after`,
    and the other ones are minus a polynomial over `before`. A sum is 0 in a
    family if both quotients are one and the same polynomial then: so a multiple
    of the pair of `after` and `before` cancels the sum of the pairs of tops.
    """
    rows = families[0].rows
    known = [trimmed(family) for family in families]
    tops = [quotient_tops(family) for family in known]
    lines = []
    for index in range(len(known)):
        blank = [() for _ in range(2 * len(known) + len(rows))]
        blank[2 * index:2 * index + 2] = [known[index].after, known[index].before]
        lines.append(tuple(blank))
    for row in range(len(rows)):
        pairs = [top for each in tops for top in each[row]]
        lines.append(tuple(pairs) + unit_vector(len(rows), row))
    vectors = short_vectors(kernel(lines, 2 * len(known)), len(rows))
    rules = [normal_rule(sum_of(rows, vector)) for vector in vectors]
    lengths = sorted([(reach(rule), rule) for rule in rules])
    return tuple([rule for _, rule in lengths])


def quotient_tops(family):
    """Return for each row the tops of both quotients, with the same multiplier.

    The entry at `t` has the shift `-t`.
    """
    settled = family.first + len(family.entries[0]) - spread(family.after)
    found = []
    for entries in without_bottoms(family.entries):
        held = [(-family.first - at, entries[at]) for at in range(len(entries))]
        after = [pair for pair in product_of(family.after, held) if -pair[0] < settled]
        before = [pair for pair in product_of(family.before, held) if -pair[0] < family.first]
        found.append((tuple(after), tuple(before)))
    return found
