"""Machines that read a family place by place and remember what matters."""

from joinpast.completing import schemes_of
from joinpast.errors import BadStretch, NotLet
from joinpast.memory import memory_size, plain_values
from joinpast.ratios import ZERO, fraction, plus, weighted
from joinpast.tails import plain_window, require_even


class Machine:
    """A machine that remembers the values of the memory of its book."""

    def __init__(self, book, remembered=None):
        values = [0 for _ in range(memory_size(book))] if remembered is None else remembered
        self.book = book
        self.schemes = tuple(schemes_of(book))
        self.held = plain_values(book, values)

    @property
    def remembered(self):
        """The values that are remembered now."""
        return self.held

    @property
    def at_rest(self):
        """Whether all remembered values are zero."""
        return all([value == ZERO for value in self.held])

    def lets(self, column):
        """Tell whether the column may come next."""
        return next_values(self.schemes, self.held, plain_column(self.book, column)) is not None

    def step(self, column):
        """Read the column and return what is remembered then."""
        found = next_values(self.schemes, self.held, plain_column(self.book, column))
        if found is None:
            raise NotLet(0)
        self.held = found
        return found

    def run(self, window):
        """Read all columns of the window and return what is remembered then."""
        found, refused = values_behind(self, window)
        if refused is not None:
            raise NotLet(refused)
        self.held = found
        return found


class Trying:
    """A block behind which a machine remembers what it remembered before."""

    def __init__(self, machine):
        self.machine = machine
        self.before = machine.held

    def __enter__(self):
        self.before = self.machine.held
        return self

    def __exit__(self, kind, value, trace):
        machine = self.machine
        machine.held = self.before


def attempt(machine, window):
    """Tell whether the machine would let all columns of the window."""
    _, refused = values_behind(machine, window)
    return refused is None


def during(trying, windows):
    """Run the windows in the block of a `Trying` object and return the answers."""
    answers = []
    with trying:
        for window in windows:
            answers.append(trying.machine.run(window))
    return tuple(answers)


def plain_column(book, column):
    """Return the column as fractions if it has one for each row of the book."""
    if len(column) != len(book.rows):
        raise BadStretch(len(column))
    return [fraction(entry) for entry in column]


def values_behind(machine, window):
    """Return the values behind a window, and the index of a refused column or None."""
    require_even(len(machine.book.rows), window)
    plain = plain_window(window)
    held = machine.held
    for index in range(len(plain[0])):
        found = next_values(machine.schemes, held, [sequence[index] for sequence in plain])
        if found is None:
            return held, index
        held = found
    return held, None


def next_values(schemes, held, column):
    """Return the values of the memory one place ahead, or None if a rule forbids it.

    The past part of a rule grows by what it has in the column, up to the whole
    rule, which must be 0.
    """
    found = []
    start = 0
    for scheme in schemes:
        length = len(scheme) - 1
        known = (ZERO,) + held[start:start + length]
        grown = [plus(value, weighted(factors, column)) for value, factors in zip(known, scheme)]
        if grown[-1] != ZERO:
            return None
        found.extend(grown[:-1])
        start = start + length
    return tuple(found)
