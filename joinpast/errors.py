"""The errors that the functions of this package raise."""


class RowError(ValueError):
    """The base class of all errors of this package."""


class NoQuotient(RowError):
    """A fraction was to be divided by zero."""


class ZeroPolynomial(RowError):
    """The zero polynomial stands where it has no meaning."""


class ZeroSum(RowError):
    """The zero sum stands where it has no meaning."""


class NoRows(RowError):
    """At least one row is needed."""


class BadName(RowError):
    """This string is not a row name."""

    def __init__(self, name):
        self.name = name


class RowTwice(RowError):
    """This row occurs twice."""

    def __init__(self, name):
        self.name = name


class UnknownRow(RowError):
    """There is no such row here."""

    def __init__(self, name):
        self.name = name


class RowsDiffer(RowError):
    """These two row sets should be equal."""

    def __init__(self, one, two):
        self.one = one
        self.two = two


class SpotTwice(RowError):
    """The wanted spot is one of the known spots."""

    def __init__(self, row, place):
        self.row = row
        self.place = place


class BadStretch(RowError):
    """A stretch has a wrong number of sequences or of items."""

    def __init__(self, count):
        self.count = count


class ShortStretch(RowError):
    """A stretch is shorter than the span of one of its polynomials."""

    def __init__(self, span):
        self.span = span


class TooLong(RowError):
    """The longest shift does not fit into the stretch."""

    def __init__(self, longest):
        self.longest = longest


class CannotStand(RowError):
    """A window breaks this sum, which follows from the book."""

    def __init__(self, terms):
        self.terms = terms


class Broken(RowError):
    """A family breaks the rule with this index at this place."""

    def __init__(self, place, index):
        self.place = place
        self.index = index


class NotFinite(RowError):
    """A family has infinitely many entries other than 0."""


class BadParts(RowError):
    """There are too many or too few parts."""

    def __init__(self, count):
        self.count = count


class Barred(RowError):
    """This sum bars a joint."""

    def __init__(self, terms):
        self.terms = terms


class NotCourse(RowError):
    """A course has exactly one row, this family has another number."""

    def __init__(self, count):
        self.count = count


class BreaksOwnRule(RowError):
    """A course does not obey the own rule of its sum at this place."""

    def __init__(self, place):
        self.place = place


class NotBlocked(RowError):
    """The rows are not the block rows of any row set for this count."""

    def __init__(self, count):
        self.count = count


class Unsure(RowError):
    """The sum is not sure despite so many liars."""


class Contradiction(RowError):
    """The readings have no explanation with so few liars."""


class NotStricter(RowError):
    """This rule of the book does not follow from the wish."""

    def __init__(self, terms):
        self.terms = terms


class NoFamilies(RowError):
    """At least one family is needed."""


class NotLet(RowError):
    """The machine does not let the column with this index."""

    def __init__(self, index):
        self.index = index


class NotFree(RowError):
    """These rows are not one of the free sets of the book."""

    def __init__(self, rows):
        self.rows = rows


class NotTimely(RowError):
    """This set of rows is not timely."""

    def __init__(self, rows):
        self.rows = rows


class NotEntered(RowError):
    """No standing rule was entered by the deed with this index."""

    def __init__(self, index):
        self.index = index


class NothingToUndo(RowError):
    """No deed stands."""


class BadNotation(RowError):
    """This line of a written form is wrong."""

    def __init__(self, line):
        self.line = line
