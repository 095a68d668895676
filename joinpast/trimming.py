"""The shortest way to write a family down: equal families get the same one."""

from joinpast.families import Family, settled_from
from joinpast.leasttails import least_tail
from joinpast.plainpolys import normal
from joinpast.polynomials import span
from joinpast.tails import mirrored


def trimmed(family):
    """Return the equal family with the least polynomials and the least stretch.

    A family that obeys one polynomial everywhere gets a stretch from place 0 on.
    """
    after = least_after(family)
    before = normal(mirrored(least_after(family.turned())))
    right = family.applied(after).extent()
    left = family.applied(before).extent()
    first = 0 if left is None else left[0]
    settled = 0 if right is None else right[1] + 1
    length = max(settled + span(after) - first, span(after), span(before))
    return Family(family.rows, first, family.window(first, length), before=before, after=after)


def least_after(family):
    """Return the least polynomial by which the family goes on to the right."""
    return least_tail(family.window(settled_from(family), span(family.after)), family.after)
