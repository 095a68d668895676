"""Sums that are sure although some of the read rows may lie."""

from joinpast.choices import choices
from joinpast.errors import NoRows
from joinpast.families import Family
from joinpast.hiding import other_rows
from joinpast.rowsets import chosen_rows
from joinpast.seeing import formula, unseen


class Despite:
    """Formulas of a sure sum, or two explanations of readings in which it differs."""

    def __init__(self, formulas, readings, one, two):
        self.sure = readings is None
        self.formulas = formulas
        self.readings = readings
        self.one = one
        self.two = two


def despite(book, read, terms, *, liars):
    """Return why the sum is sure despite so many liars, or why not."""
    if len(read) == 0:
        raise NoRows()
    chosen = chosen_rows(read, book.rows)
    pairs = []
    for left_out in choices(chosen, min(2 * liars, len(chosen))):
        found = formula(book, other_rows(chosen, left_out), terms)
        if found is None:
            return unsure(book, chosen, terms, left_out, liars)
        pairs.append((left_out, found))
    return Despite(tuple(pairs), None, None, None)


def unsure(book, chosen, terms, left_out, liars):
    """Return two explanations for rows whose absence makes the sum unknown.

    One explanation is zero, the other one is zero in all rows that are not
    left out. Half of those that are left out are read as the second one tells.
    """
    two = unseen(book, other_rows(chosen, left_out), terms)
    lying = left_out[:liars]
    readings = Family.zero(chosen)
    if lying:
        readings = two.only(lying)
        if len(lying) < len(chosen):
            readings = readings.beside(Family.zero(other_rows(chosen, lying)))
    return Despite((), readings, Family.zero(book.rows), two)
