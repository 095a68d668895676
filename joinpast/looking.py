"""How many places of the shown rows must be looked at."""

from joinpast.linear import first_dependence
from joinpast.rowsets import chosen_rows, require_rows
from joinpast.sums import ordered, rows_of
from joinpast.syzygies import short_vectors
from joinpast.telling import formula_of, shown_vector, told_by
from joinpast.vectors import combined, moved_vector


def look(book, shown, terms, *, ahead):
    """Return the least number of places up to `ahead`, and a formula, or None.

    The formulas of a sum differ by what follows about the shown rows. The
    shortest vectors of this are independent at their ends: so if they can't
    cancel the end of a formula, nothing can.
    """
    chosen = chosen_rows(shown, book.rows)
    plain = ordered(terms)
    require_rows(rows_of(plain), book.rows)
    told = told_by(book, chosen)
    vector = shown_vector(told, plain)
    rules = short_vectors(told[3], len(chosen))
    while vector is not None and any(vector[:-1]) and bounds_of(vector)[1] > ahead:
        high = bounds_of(vector)[1]
        ending = [moved_vector(rule, high - bounds_of(rule)[1]) for rule in rules]
        vector = cancelled(vector, ending, high)
    if vector is None:
        return None
    return shortest_look(chosen, rules, vector, ahead)


def shortest_look(chosen, rules, vector, ahead):
    """Return the answer for a vector without shifts greater than `ahead`."""
    better = vector
    while better is not None and any(better[:-1]):
        vector = better
        low = bounds_of(vector)[0]
        beginning = [moved_vector(rule, low - bounds_of(rule)[0]) for rule in rules]
        fitting = [rule for rule in beginning if bounds_of(rule)[1] <= ahead]
        better = cancelled(vector, fitting, low)
    if better is not None:
        return (0, formula_of(chosen, better))
    return (ahead - bounds_of(vector)[0] + 1, formula_of(chosen, vector))


def bounds_of(vector):
    """Return the least and the greatest shift of a vector in the shown rows."""
    filled = [p for p in vector[:-1] if p]
    return min([p[0][0] for p in filled]), max([p[-1][0] for p in filled])


def cancelled(vector, rules, shift):
    """Return the vector changed by the rules to have nothing at this shift, or None."""
    items = rules + [vector]
    edges = [[dict(p).get(shift, 0) for p in item[:-1]] for item in items]
    factors = first_dependence(edges)
    return None if factors is None else combined(factors, items)
