"""Rules that are fresh for a book: nothing that comes from them follows from it."""

from joinpast.echelon import echelon
from joinpast.gaps import is_steerable
from joinpast.leastform import derived_each, sum_of, vector_of
from joinpast.pulses import pulse_vectors
from joinpast.rowsets import require_rows
from joinpast.shortest import shortest
from joinpast.sums import ordered, rows_of
from joinpast.wishes import inner_book, numbered_rows, outer_rule, require_stricter


def are_fresh(book, rules):
    """Tell whether nothing that comes from the rules follows from the book."""
    plain = [ordered(rule) for rule in rules]
    for rule in plain:
        require_rows(rows_of(rule), book.rows)
    vectors = [vector_of(book.rows, rule) for rule in [*shortest(book), *plain]]
    _, emptied = echelon(vectors, len(book.rows))
    return not emptied


def fresh_rules(book, wish):
    """Return fresh rules which, with those of the book, make the wish, or None.

    If the inner book is steerable, its families come, in exactly one way, from
    as many free rows as it has pulses: the rule of each of its rows is what the
    pulses have there. The fresh rules are those that tell these free rows.
    """
    require_stricter(book, wish)
    if book == wish:
        return ()
    inner = inner_book(book, wish)
    if not is_steerable(inner):
        return None
    pulses = pulse_vectors(inner)
    free = numbered_rows(len(pulses))
    courses = [
        sum_of(free, [vector[at] for vector in pulses]) for at in range(len(inner.rows))
    ]
    pairs = derived_each(free, courses, [((row, 0, 1),) for row in free])
    return tuple([outer_rule(wish, factors) for _, factors in pairs])
