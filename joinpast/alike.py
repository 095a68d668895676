"""Books that are alike: their families can be translated there and back."""

from math import gcd

from joinpast.books import Book
from joinpast.courses import course
from joinpast.errors import BadParts
from joinpast.fresh import fresh_rules
from joinpast.leastform import derived_each
from joinpast.plainpolys import ONE
from joinpast.rowsets import require_rows, row_set
from joinpast.shortest import shortest
from joinpast.steering import steerable_part
from joinpast.sums import ordered, rows_of, sum_plus, sum_times
from joinpast.tables import count_obeying, table
from joinpast.unchangeables import unchangeables


class Likeness:
    """Formulas that translate there and back, or a polynomial that tells books apart."""

    def __init__(self, there, back, polynomial):
        self.alike = polynomial is None
        self.there = there
        self.back = back
        self.polynomial = polynomial


def translated(family, rows, formulas):
    """Return the family of the values of formulas, one for each of the rows."""
    named = row_set(rows)
    if len(formulas) != len(named):
        raise BadParts(len(formulas))
    for _, terms in formulas:
        require_rows(rows_of(terms), family.rows)
    found = [
        course(family, terms, name=row).scaled((1, divisor))
        for row, (divisor, terms) in zip(named, formulas)
    ]
    whole = found[0]
    for part in found[1:]:
        whole = whole.beside(part)
    return whole


def compare(one, two):
    """Return how two books are alike, or a polynomial that tells them apart."""
    polynomial = parting_polynomial(one, two)
    if polynomial is not None:
        return Likeness(None, None, polynomial)
    ours = basic_sums(one)
    yours = basic_sums(two)
    there = formulas_for(two, yours, ours)
    return Likeness(there, formulas_for(one, ours, yours), None)


def parting_polynomial(one, two):
    """Return a polynomial that more families of one book obey, or None.

    If the numbers of free rows differ, then all but finitely many polynomials do.
    Otherwise the first polynomial by which the tables differ does, if both
    are written below each other with their ends at the same spot.
    """
    if one.free_count != two.free_count:
        root = 1
        while count_obeying(one, ((0, -root), (1, 1))) == count_obeying(two, ((0, -root), (1, 1))):
            root += 1
        return ((0, -root), (1, 1))
    ours = true_remainders(one)
    yours = true_remainders(two)
    if ours == yours:
        return None
    for p in ours + yours:
        if count_obeying(one, p) != count_obeying(two, p):
            return p
    return None


def true_remainders(book):
    """Return the polynomials of the table that are not one."""
    return [p for p in table(book) if p != ONE]


def basic_sums(book):
    """Return sums whose courses tell everything and do not depend on each other.

    The first ones are unchangeable and go by their own rules alone, the others
    are free together.
    """
    kept = [terms for terms, _ in unchangeables(book)]
    return kept + list(fresh_rules(steerable_part(book), Book.zero(book.rows)))


def formulas_for(book, sums, others):
    """Return a formula for each row of the book, with `others` instead of `sums`.

    The basic sums of the book tell its rows. Those of the other book have
    the same courses in the family that is alike.
    """
    wanted = [((row, 0, 1),) for row in book.rows]
    found = []
    for divisor, factors in derived_each(book.rows, list(shortest(book)) + sums, wanted):
        total = ()
        for factor, terms in zip(factors[len(book):], others):
            total = sum_plus(total, sum_times(factor, terms))
        found.append(lowest_formula(divisor, total))
    return tuple(found)


def lowest_formula(divisor, terms):
    """Return the formula in lowest terms."""
    shared = divisor
    for _, _, factor in terms:
        shared = gcd(shared, factor)
    return (divisor // shared, ordered([(row, at, factor // shared) for row, at, factor in terms]))
