"""Unchangeable sums of which all unchangeable sums of a book consist."""

from joinpast.books import Book
from joinpast.leastform import derived
from joinpast.ownrules import own_rule
from joinpast.plainpolys import ONE, divided
from joinpast.shortest import shortest
from joinpast.steering import steerable_part
from joinpast.sums import normal_rule, sum_plus, sum_times
from joinpast.tables import table


def unchangeables(book):
    """Return sums and their own rules, of which all unchangeable sums consist.

    The sums are found from the last one to the first. If those that were found
    count as 0, then the own rules of all unchangeable sums divide the greatest
    polynomial that is left, and some sum has just this one.
    """
    polynomials = [p for p in table(book) if p != ONE]
    rules = shortest(steerable_part(book)) if polynomials else ()
    found = []
    for p in polynomials[::-1]:
        known = [terms for terms, _ in found]
        terms = sum_with(Book(book.rows, list(book.rules) + known), rules, p)
        found.append((independent(book, known, terms, p), p))
    return tuple(found[::-1])


def sum_with(book, rules, p):
    """Return a sum of multiples of the rules whose own rule is p.

    The multiples that do not do are those in a few spaces of lower dimension,
    and powers of 1, 2, 3 .. leave each such space soon.
    """
    for rule in rules:
        if own_rule(book, rule) == p:
            return rule
    base = 1
    terms = powers_sum(rules, base)
    while own_rule(book, terms) != p:
        base += 1
        terms = powers_sum(rules, base)
    return terms


def powers_sum(rules, base):
    """Return the sum of the rules times 1, the base, its square and so on."""
    total = ()
    power = 1
    for rule in rules:
        total = sum_plus(total, sum_times([(0, power)], rule))
        power = power * base
    return total


def independent(book, known, terms, p):
    """Return the sum changed by multiples of known ones to have the own rule p.

    It has this own rule if the known ones count as 0. So p applied to it comes
    from them, and the factors of this are products with p.
    """
    multiplier, factors = derived(book.rows, list(book.rules) + known, sum_times(p, terms))
    total = sum_times([(0, multiplier)], terms)
    scale = 1
    for rule, factor in zip(known, factors[len(book):]):
        grow, quotient, _ = divided(factor, p, 0)
        less = sum_times([(shift, -scale * coefficient) for shift, coefficient in quotient], rule)
        total = sum_plus(sum_times([(0, grow)], total), less)
        scale = scale * grow
    return normal_rule(total)


def unchangeable_parts(book, terms):
    """Return how an unchangeable sum consists of those above, or None if it is free."""
    if not own_rule(book, terms):
        return None
    known = [rule for rule, _ in unchangeables(book)]
    multiplier, factors = derived(book.rows, list(book.rules) + known, terms)
    return (multiplier, factors[len(book):])
