"""The least form of rules, shortest rules, and what follows from them."""

from joinpast.echelon import echelon, hermite, lowered
from joinpast.plainpolys import ONE
from joinpast.shortening import shortened
from joinpast.sums import normal_rule, part_of, reach
from joinpast.vectors import first_filled


def vector_of(rows, terms):
    """Return the parts of a sum in all rows, one after the other."""
    return tuple([part_of(terms, row) for row in rows])


def sum_of(rows, vector):
    """Return the sum that has these parts."""
    return tuple([
        (row, shift, coefficient)
        for row, part in zip(rows, vector)
        for shift, coefficient in part
    ])


def least_rules(rows, rules):
    """Return the least form of rules in these rows."""
    plain = [normal_rule(rule) for rule in rules]
    lengths = sorted([(reach(rule), rule) for rule in plain if rule])
    vectors = [vector_of(rows, rule) for _, rule in lengths]
    return tuple([
        normal_rule(sum_of(rows, vector)) for vector in hermite(vectors, len(rows))
    ])


def short_rules(rows, least):
    """Return a shortest tuple of rules for rules in least form."""
    vectors = shortened([vector_of(rows, rule) for rule in least], len(rows))
    rules = [normal_rule(sum_of(rows, vector)) for vector in vectors]
    lengths = sorted([(reach(rule), rule) for rule in rules])
    return tuple([rule for _, rule in lengths])


def follows(rows, least, terms):
    """Tell whether a sum in these rows follows from rules in least form."""
    rest = vector_of(rows, terms)
    for rule in least:
        step = vector_of(rows, rule)
        column = first_filled(step, len(rows))
        rest = freed(rest, column, step)
        if rest[column]:
            return False
    return first_filled(rest, len(rows)) is None


def freed(vector, column, step):
    """Return the vector with zero in the column if the step can do that."""
    if not vector[column]:
        return vector
    return lowered(vector, vector[column][0][0], [(column, step)])


def shared_rules(rows, one, two):
    """Return rules from which follows what follows from both tuples of rules.

    A vector that one half of the scheme can cancel with the rules `two` comes
    out in the other half, which repeats the rules `one` alone.
    """
    width = len(rows)
    doubled = [vector_of(rows, rule) * 2 for rule in one]
    single = [vector_of(rows, rule) + tuple([() for _ in rows]) for rule in two]
    _, emptied = echelon(doubled + single, width)
    return [sum_of(rows, vector[width:]) for vector in emptied]


def derived(rows, rules, terms):
    """Return (m, factors) with m * terms = the factors applied to the rules.

    The sum follows from the rules.
    """
    return derived_each(rows, rules, [terms])[0]


def derived_each(rows, rules, sums):
    """Return the pair that `derived` returns for each of the sums.

    Each vector carries, behind its columns for the rows, the factors by which
    it came from the given rules.
    """
    width = len(rows)
    needed = needed_rules(rows, rules)
    marks = [
        tuple([ONE if at == index else () for at in range(len(needed) + 1)])
        for index in range(len(needed) + 1)
    ]
    vectors = [vector_of(rows, rules[at]) + mark for at, mark in zip(needed, marks)]
    steps, _ = echelon(vectors, width)
    pairs = []
    for terms in sums:
        rest = vector_of(rows, terms) + marks[len(needed)]
        for column, step in steps:
            rest = freed(rest, column, step)
        factors = [() for _ in rules]
        for at, factor in zip(needed, rest[width:-1]):
            factors[at] = tuple([(shift, -coefficient) for shift, coefficient in factor])
        pairs.append((rest[-1][0][1], tuple(factors)))
    return pairs


def needed_rules(rows, rules):
    """Return the indexes of rules from which all of the rules follow.

    To carry along factors of needless rules would lead to huge numbers. Short
    rules are taken before long ones.
    """
    lengths = sorted([(reach(rules[at]), at) for at in range(len(rules)) if rules[at]])
    needed = []
    steps = []
    for _, at in lengths:
        rest = vector_of(rows, rules[at])
        for column, step in steps:
            rest = freed(rest, column, step)
        if first_filled(rest, len(rows)) is not None:
            needed.append(at)
            steps, _ = echelon([vector_of(rows, rules[kept]) for kept in needed], len(rows))
    return needed
