"""Which of two books is stricter, and families that tell them apart."""

from joinpast.following import counterexample
from joinpast.rowsets import require_same_rows


def within(one, two):
    """Tell whether each family that keeps the first book keeps the second."""
    require_same_rows(one.rows, two.rows)
    return all([rule in one for rule in two.rules])


def parting(one, two):
    """Return a family that keeps exactly one of the books, or None."""
    require_same_rows(one.rows, two.rows)
    for holder, other in ((one, two), (two, one)):
        for rule in other.rules:
            family = counterexample(holder, rule)
            if family is not None:
                return family
    return None
