"""Families of endless rows that have a finite stretch."""

from joinpast.divisors import least_multiple
from joinpast.errors import RowTwice, ShortStretch, ZeroPolynomial
from joinpast.polynomials import normal_polynomial, polynomial, span
from joinpast.ratios import ZERO, fraction, plus, times
from joinpast.rowsets import renamed_rows, require_rows, require_same_rows, row_set
from joinpast.tails import between, mirrored, plain_window, require_even, slid


class Family:
    """Rows of fractions that go on by polynomials on both sides of a stretch."""

    def __init__(self, rows, first, entries, *, before=((0, 1),), after=((0, 1),)):
        named = row_set(rows)
        require_even(len(named), entries)
        ends = [normal_polynomial(before), normal_polynomial(after)]
        for end in ends:
            if not end:
                raise ZeroPolynomial()
        for end in ends:
            if span(end) > len(entries[0]):
                raise ShortStretch(span(end))
        plain = dict(zip(rows, plain_window(entries)))
        self.rows = named
        self.first = first
        self.entries = tuple([plain[row] for row in named])
        self.before = ends[0]
        self.after = ends[1]

    @classmethod
    def zero(cls, rows):
        """Return the family of zeros."""
        return cls(rows, 0, [[] for _ in row_set(rows)])

    @classmethod
    def pulse(cls, rows, row, *, place=0):
        """Return the family with a single entry 1 and zeros elsewhere."""
        named = row_set(rows)
        require_rows([row], named)
        return cls(named, place, [[1 if name == row else 0] for name in named])

    def entry(self, row, place):
        """Return the entry of a row at a place."""
        require_rows([row], self.rows)
        low = place - self.first
        held = self.entries[self.rows.index(row)]
        return between(held, (self.before, self.after), low, low + 1)[0]

    def __call__(self, row, place):
        return self.entry(row, place)

    def window(self, place, length):
        """Return the entries of all rows at `length` places from `place` on."""
        low = place - self.first
        ends = (self.before, self.after)
        return tuple([between(entries, ends, low, low + length) for entries in self.entries])

    @property
    def is_finite(self):
        """Whether only finitely many entries are not 0."""
        return not goes_on_left(self) and not goes_on_right(self)

    def extent(self):
        """Return the least and the greatest place that is not all zeros."""
        filled = [
            self.first + at
            for at in range(len(self.entries[0]))
            if any([entries[at] != ZERO for entries in self.entries])
        ]
        if not filled:
            return None
        least = None if goes_on_left(self) else filled[0]
        greatest = None if goes_on_right(self) else filled[-1]
        return (least, greatest)

    def moved(self, by):
        """Return the family whose entry at t is the one at t - by."""
        return replaced(self, self.rows, self.first + by, self.entries)

    def turned(self):
        """Return the family whose entry at t is the one at -t."""
        first = 1 - self.first - len(self.entries[0])
        entries = [sequence[::-1] for sequence in self.entries]
        return Family(self.rows, first, entries, before=mirrored(self.after), after=mirrored(self.before))

    def only(self, rows):
        """Return the family that has only these rows."""
        named = row_set(rows)
        require_rows(named, self.rows)
        kept = [self.entries[self.rows.index(row)] for row in named]
        return replaced(self, named, self.first, kept)

    def beside(self, other):
        """Return the family that has the rows of both families."""
        for row in self.rows:
            if row in other.rows:
                raise RowTwice(row)
        first, length, ends = frame_of(self, other)
        entries = self.window(first, length) + other.window(first, length)
        return Family(self.rows + other.rows, first, entries, before=ends[0], after=ends[1])

    def renamed(self, old, new):
        """Return the family in which the row `old` is called `new`."""
        return replaced(self, renamed_rows(self.rows, old, new), self.first, self.entries)

    def scaled(self, value):
        """Return the family with each entry multiplied by a fraction."""
        factor = fraction(value)
        entries = [[times(factor, entry) for entry in sequence] for sequence in self.entries]
        return replaced(self, self.rows, self.first, entries)

    def applied(self, p):
        """Return the family with the polynomial applied to each row."""
        plain = polynomial(p)
        if not plain:
            return Family.zero(self.rows)
        low = plain[0][0]
        first = self.first - plain[-1][0]
        length = len(self.entries[0]) + span(plain)
        held = self.window(first + low, length + span(plain))
        entries = [slid([plain], [window], low, length) for window in held]
        return replaced(self, self.rows, first, entries)

    def __add__(self, other):
        require_same_rows(self.rows, other.rows)
        first, length, ends = frame_of(self, other)
        entries = [
            [plus(one, two) for one, two in zip(mine, yours)]
            for mine, yours in zip(self.window(first, length), other.window(first, length))
        ]
        return Family(self.rows, first, entries, before=ends[0], after=ends[1])

    def __sub__(self, other):
        return self + other.scaled(-1)

    def __neg__(self):
        return self.scaled(-1)

    def __mul__(self, other):
        return self.scaled(other)

    def __rmul__(self, other):
        return self.scaled(other)

    def __eq__(self, other):
        return isinstance(other, Family) and self.rows == other.rows and same_entries(self, other)


def replaced(family, rows, first, entries):
    """Return a family that goes on by the polynomials of another one."""
    return Family(rows, first, entries, before=family.before, after=family.after)


def settled_from(family):
    """Return the place from which on the polynomial on the right holds."""
    return family.first + len(family.entries[0]) - span(family.after)


def settled_until(family):
    """Return the place up to which the polynomial on the left looks."""
    return family.first + span(family.before)


def goes_on_left(family):
    """Tell whether entries arbitrarily far to the left are not 0.

    Neither end of a normal polynomial is 0, so the whole side is zero if as
    many neighbours are zero as its span tells.
    """
    count = span(family.before)
    return any([entry != ZERO for sequence in family.entries for entry in sequence[:count]])


def goes_on_right(family):
    """Tell whether entries arbitrarily far to the right are not 0."""
    start = len(family.entries[0]) - span(family.after)
    return any([entry != ZERO for sequence in family.entries for entry in sequence[start:]])


def frame_of(one, two):
    """Return first, length and both polynomials of a stretch for two families.

    From the stretch on, the families and all their sums go on by the two
    polynomials. A common polynomial on the left looks farther ahead than those
    of the families, so it holds from farther to the left.
    """
    before = least_multiple(one.before, two.before)
    after = least_multiple(one.after, two.after)
    first = min(settled_until(one), settled_until(two)) - span(before)
    settled = max(settled_from(one), settled_from(two))
    return first, max(settled + span(after) - first, span(before)), (before, after)


def same_entries(one, two):
    """Tell whether two families with the same rows have the same entries."""
    first, length, _ = frame_of(one, two)
    return one.window(first, length) == two.window(first, length)
