"""Which windows of a book a family shows."""

from joinpast.barring import require_kept
from joinpast.rowsets import require_same_rows
from joinpast.sums import reach
from joinpast.vanishing import vanishing_rules


def shows(book, family, length):
    """Tell whether all windows come from windows of the family."""
    return unshown_rule(book, family, length) is None


def unshown_rule(book, family, length):
    """Return a short sum that is 0 in the family but does not follow, or None."""
    rule = first_unshown_rule(book, family)
    if rule is None or reach(rule) >= length:
        return None
    return rule


def first_unshown(book, family):
    """Return the least length of which some window is not shown, or None."""
    rule = first_unshown_rule(book, family)
    return None if rule is None else reach(rule) + 1


def first_unshown_rule(book, family):
    """Return a shortest sum that is 0 in the family but does not follow, or None.

    All sums that are 0 in the family consist of shortest ones that are not
    longer than they are.
    """
    require_same_rows(book.rows, family.rows)
    require_kept(book, family)
    for rule in vanishing_rules([family]):
        if rule not in book:
            return rule
    return None
