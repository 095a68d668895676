"""What shown rows tell about sums and about hidden rows."""

from joinpast.books import least_book
from joinpast.errors import NoRows
from joinpast.families import Family
from joinpast.following import counterexample
from joinpast.hiding import other_rows
from joinpast.rowsets import chosen_rows, require_rows
from joinpast.shortest import shortest
from joinpast.sums import ordered, rows_of
from joinpast.telling import formula_of, shown_vector, told_by


def formula(book, shown, terms):
    """Return a formula in shown rows for the sum, or None."""
    chosen = chosen_rows(shown, book.rows)
    plain = ordered(terms)
    require_rows(rows_of(plain), book.rows)
    found = shown_vector(told_by(book, chosen), plain)
    return None if found is None else formula_of(chosen, found)


def unseen(book, shown, terms):
    """Return a family with zeros in the shown rows but not in the sum, or None."""
    chosen = chosen_rows(shown, book.rows)
    plain = ordered(terms)
    require_rows(rows_of(plain), book.rows)
    if len(chosen) == len(book.rows):
        return None
    family = counterexample(hidden_book(book, chosen), without_rows(plain, chosen))
    if family is None or not chosen:
        return family
    return family.beside(Family.zero(chosen))


def told_rows(book, shown):
    """Return the rows whose entries the shown rows tell."""
    told = told_by(book, chosen_rows(shown, book.rows))
    return tuple([row for row in book.rows if shown_vector(told, [(row, 0, 1)]) is not None])


def unseen_book(book, shown):
    """Return what the hidden rows keep beside zeros in the shown rows."""
    chosen = chosen_rows(shown, book.rows)
    if len(chosen) == len(book.rows):
        raise NoRows()
    return hidden_book(book, chosen)


def hidden_book(book, chosen):
    """Return the book of the rules without their terms in the chosen rows."""
    rules = [without_rows(rule, chosen) for rule in shortest(book)]
    return least_book(other_rows(book.rows, chosen), rules)


def without_rows(terms, chosen):
    """Return the terms that are not in the chosen rows."""
    return [term for term in terms if term[0] not in chosen]
