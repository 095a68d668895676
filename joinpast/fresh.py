"""Rules that are fresh for a book: nothing that comes from them follows from it."""

from joinpast.diagonals import diagonal
from joinpast.echelon import echelon
from joinpast.leastform import derived_each, sum_of, vector_of
from joinpast.plainpolys import ONE
from joinpast.rowsets import require_rows
from joinpast.shortest import shortest
from joinpast.sums import ordered, rows_of
from joinpast.syzygies import cancelling, short_vectors, unit_vector
from joinpast.wishes import inner_book, numbered_rows, outer_rule, require_stricter


def are_fresh(book, rules):
    """Tell whether nothing that comes from the rules follows from the book."""
    plain = [ordered(rule) for rule in rules]
    for rule in plain:
        require_rows(rows_of(rule), book.rows)
    vectors = [vector_of(book.rows, rule) for rule in [*shortest(book), *plain]]
    _, emptied = echelon(vectors, len(book.rows))
    return not emptied


def fresh_rules(book, wish):
    """Return fresh rules which, with those of the book, make the wish, or None."""
    require_stricter(book, wish)
    if book == wish:
        return ()
    rules = shortest(wish)
    inner = inner_book(book, rules)
    vectors = [vector_of(inner.rows, rule) for rule in shortest(inner)]
    if not is_completable(vectors, len(inner.rows)):
        return None
    return tuple([outer_rule(rules, vector) for vector in completing_vectors(vectors, len(inner.rows))])


def is_completable(vectors, width):
    """Tell whether further vectors can be found with which all vectors come from them."""
    short = short_vectors(vectors, width)
    return len(short) == len(vectors) and all([p == ONE for p in diagonal(short)])


def completing_vectors(vectors, width):
    """Return vectors with which all vectors come from those that are passed.

    Unit vectors are taken as long as others can still be found for the rest.
    """
    kept = list(range(width))
    found = []
    for column in range(width):
        fewer = [at for at in kept if at != column]
        if is_completable(narrowed(vectors, fewer), len(fewer)):
            found.append(unit_vector(width, column))
            kept = fewer
    return found + [widened(vector, kept, width) for vector in bound_vectors(vectors, kept)]


def narrowed(vectors, columns):
    """Return the vectors with these columns only."""
    return [tuple([vector[at] for at in columns]) for vector in vectors]


def widened(vector, columns, width):
    """Return the vector that has its items in these columns and zeros elsewhere."""
    held = dict(zip(columns, vector))
    return tuple([held.get(at, ()) for at in range(width)])


def bound_vectors(vectors, columns):
    """Return vectors with which all vectors of these columns come from the vectors.

    What cancels the vectors comes, in exactly one way, from a few vectors. It
    is enough that further vectors give one with one of these each and zero with
    the others.
    """
    pulses = cancelling(narrowed(vectors, columns), len(columns))
    free = numbered_rows(len(pulses))
    courses = [sum_of(free, [pulse[at] for pulse in pulses]) for at in range(len(columns))]
    pairs = derived_each(free, courses, [((row, 0, 1),) for row in free])
    return [factors for _, factors in pairs]
