"""What the tests share: a second, naive way to work out the same things."""

import random
from fractions import Fraction

from joinpast.books import Book
from joinpast.families import Family
from joinpast.following import counterexample
from joinpast.pulses import pulses
from joinpast.ratios import without_bottoms
from joinpast.sums import sum_plus, sum_times

PRIME = (1 << 61) - 1


def pair(number):
    """Return a Fraction as the pair that the program returns."""
    number = Fraction(number)
    return (number.numerator, number.denominator)


def number(value):
    """Return a whole number or a pair as a Fraction."""
    return Fraction(value) if isinstance(value, int) else Fraction(*value)


def merged(pairs):
    """Return the dict from shifts to coefficients other than 0."""
    found = {}
    for shift, coefficient in pairs:
        found[shift] = found.get(shift, 0) + coefficient
    return {shift: found[shift] for shift in found if found[shift]}


def product(p, q):
    """Return the product of two polynomials as a sorted tuple."""
    found = merged([(s + t, c * d) for s, c in p for t, d in q])
    return tuple(sorted(found.items()))


def merged_sum(terms):
    """Return the dict from rows and shifts to coefficients other than 0."""
    found = {}
    for row, shift, coefficient in terms:
        found[row, shift] = found.get((row, shift), 0) + coefficient
    return {key: found[key] for key in found if found[key]}


class Naive:
    """A family that is continued entry by entry from what was passed."""

    def __init__(self, rows, first, entries, before=((0, 1),), after=((0, 1),)):
        self.known = {
            (row, first + at): number(entry)
            for row, sequence in zip(rows, entries) for at, entry in enumerate(sequence)
        }
        self.first = first
        self.end = first + len(entries[0])
        self.before = merged(before)
        self.after = merged(after)

    def __call__(self, row, place):
        if (row, place) not in self.known:
            self.known[row, place] = self.further(row, place)
        return self.known[row, place]

    def further(self, row, place):
        p = self.after if place >= self.end else self.before
        edge = max(p) if place >= self.end else min(p)
        step = 1 if place >= self.end else -1
        for at in range(self.end if step == 1 else self.first - 1, place, step):
            self(row, at)
        others = [c * self(row, place - edge + s) for s, c in p.items() if s != edge]
        return Fraction(-sum(others), p[edge])


def naive_value(family, terms, place):
    """Return the value of a sum, entry by entry."""
    return sum([c * number(family(row, place + shift)) for row, shift, c in terms], Fraction(0))


def rank(lines):
    """Return the rank of lines, dicts from keys to whole numbers, modulo a prime."""
    steps = {}
    for line in lines:
        rest = {key: line[key] % PRIME for key in line if line[key] % PRIME}
        while rest:
            key = min(rest)
            if key not in steps:
                inverse = pow(rest[key], PRIME - 2, PRIME)
                steps[key] = {at: rest[at] * inverse % PRIME for at in rest}
                break
            times = rest[key]
            for at, held in steps[key].items():
                left = (rest.get(at, 0) - times * held) % PRIME
                if left:
                    rest[at] = left
                else:
                    rest.pop(at, None)
    return len(steps)


def shifted_lines(rules, low, high):
    """Return the rules at all places at which their shifts stay in the bounds."""
    lines = []
    for rule in rules:
        plain = merged_sum(rule)
        if plain:
            least = min(shift for _, shift in plain)
            most = max(shift for _, shift in plain)
            for by in range(low - least, high - most + 1):
                lines.append({(shift + by, row): c for (row, shift), c in plain.items()})
    return lines


def followers(rules, length, margin=20):
    """Return how many independent sums with shifts below `length` follow."""
    lines = shifted_lines(rules, -margin, length + margin)
    outside = [{key: line[key] for key in line if not 0 <= key[0] < length} for line in lines]
    return rank(lines) - rank(outside)


def naively_follows(rules, terms, margin=20):
    """Tell whether a sum is a sum of multiples of rules at places nearby."""
    lines = shifted_lines(rules, -margin, margin)
    wanted = {(shift, row): c for (row, shift), c in merged_sum(terms).items()}
    return rank(lines + [wanted]) == rank(lines)


def window_lines(families, length, reach=30):
    """Return the windows of families, read entry by entry, as lines of whole numbers."""
    lines = []
    for family in families:
        for place in range(-reach, reach):
            whole = without_bottoms(family.window(place, length))
            lines.append({(row, at): whole[row][at] for row in range(len(whole)) for at in range(length)})
    return lines


def random_polynomial(source, pairs=3, shift=3, coefficient=3):
    return [
        (source.randint(-shift, shift), source.randint(-coefficient, coefficient))
        for _ in range(source.randint(0, pairs))
    ]


def random_sum(source, rows, terms=4, shift=2, coefficient=3):
    return [
        (source.choice(rows), source.randint(-shift, shift), source.randint(-coefficient, coefficient))
        for _ in range(source.randint(0, terms))
    ]


def random_rules(source, rows, most=3, **bounds):
    return [random_sum(source, rows, **bounds) for _ in range(source.randint(0, most))]


def random_rows(source, most=3):
    return list("abcdef")[:source.randint(1, most)]


def random_entry(source):
    return source.choice([0, 0, 1, -1, 2, (1, 2), (-3, 4), (2, -6)])


def random_end(source, length):
    """Return a polynomial other than zero whose span is at most `length`."""
    span = source.randint(0, min(length, 2))
    middle = [(at, source.randint(-2, 2)) for at in range(1, span)]
    ends = [(0, source.choice([1, -1, 2]))] + ([(span, source.choice([1, -1, 3]))] if span else [])
    by = source.randint(-2, 2)
    return [(at + by, c) for at, c in middle + ends]


def random_family_parts(source, rows):
    """Return what `Family` is passed, as positional and named arguments."""
    length = source.randint(0, 4)
    entries = [[random_entry(source) for _ in range(length)] for _ in rows]
    ends = {"before": random_end(source, length), "after": random_end(source, length)}
    return (rows, source.randint(-3, 3), entries), ends


def random_family(source, rows):
    parts, ends = random_family_parts(source, rows)
    return Family(*parts, **ends)


def sources(count):
    """Yield as many different sources of chance, always the same ones."""
    for seed in range(count):
        yield random.Random(seed)


def all_tuples(value):
    """Tell whether a value has no list at any level."""
    if isinstance(value, tuple):
        return all(all_tuples(part) for part in value)
    return not isinstance(value, (list, dict, set))


def raised(call, *arguments, **named):
    """Return the error that a call raises, or None."""
    try:
        call(*arguments, **named)
    except ValueError as error:
        return error
    return None


def solvable(lines, width):
    """Return unknowns below `width` with which lines are zero, or None.

    A line is a dict from columns to Fractions; the column `width` counts as 1.
    """
    steps = {}
    for line in lines:
        rest = {at: Fraction(line[at]) for at in line if line[at]}
        for column in sorted(steps):
            if column in rest:
                times = rest[column] / steps[column][column]
                for at, held in steps[column].items():
                    rest[at] = rest.get(at, Fraction(0)) - times * held
                rest = {at: rest[at] for at in rest if rest[at]}
        left = [at for at in sorted(rest) if at < width]
        if not left and rest:
            return None
        if left:
            steps[left[0]] = rest
    found = [Fraction(0)] * width
    for column in sorted(steps, reverse=True):
        rest = steps[column]
        others = sum([rest[at] * (1 if at == width else found[at]) for at in rest if at != column], Fraction(0))
        found[column] = -others / rest[column]
    return found


def naive_joint(rules, past, future, place, gap):
    """Return the entries in a gap as a dict of spots, or None if there is no joint.

    All given rules are asked for at all places where they reach into the gap or
    over it. Of an empty gap an empty dict is returned.
    """
    rows = past.rows
    spots = [(row, at) for at in range(gap) for row in rows]
    lines = []
    for rule in rules:
        plain = merged_sum(rule)
        shifts = [shift for _, shift in plain]
        for by in range(-max(shifts, default=0), gap - min(shifts, default=0)) if plain else []:
            line = {}
            for (row, shift), c in plain.items():
                at = by + shift
                column = spots.index((row, at)) if 0 <= at < gap else len(spots)
                held = 1 if 0 <= at < gap else number((past if at < 0 else future)(row, place + at))
                line[column] = line.get(column, Fraction(0)) + c * held
            lines.append(line)
    found = solvable(lines, len(spots))
    return None if found is None else dict(zip(spots, found))


def finite_count(rules, rows, width):
    """Return how many independent families with entries at 0 to `width` alone keep rules."""
    lines = []
    for rule in rules:
        plain = merged_sum(rule)
        shifts = [shift for _, shift in plain]
        for by in range(-max(shifts, default=0), width + 1 - min(shifts, default=0)) if plain else []:
            line = {(by + shift, row): c for (row, shift), c in plain.items() if 0 <= by + shift <= width}
            lines.append(line)
    return len(rows) * (width + 1) - rank(lines)


def told_count(rules, spots, margin=20):
    """Return how many independent sums with terms at these spots follow."""
    lines = shifted_lines(rules, -margin, margin)
    outside = [{key: line[key] for key in line if (key[1], key[0]) not in spots} for line in lines]
    return rank(lines) - rank(outside)


def random_book(source, rows, shift=2, coefficient=2):
    """Return a book whose rules are, not seldom, products with polynomials."""
    many = source.randint(0, len(rows))
    rules = [
        [(row, source.randint(0, shift), source.randint(-coefficient, coefficient)) for row in rows * 2]
        for _ in range(many)
    ]
    for at in range(many):
        factor = source.choice([[(0, 1)], [(0, 1)], [(0, -1), (1, 1)], [(0, 2), (1, 3)], [(0, 1), (2, 1)]])
        rules[at] = sum_times(factor, rules[at])
    if source.randint(0, 2) == 0:
        shared = source.choice([[(0, -1), (1, 1)], [(0, 2), (1, 3)]])
        rules = [sum_times(shared, rule) for rule in rules]
    return Book(rows, rules)


def kept_family(source, book):
    """Return a family that keeps the book: made of windows and of pulses."""
    total = Family.zero(book.rows)
    for _ in range(2):
        wanted = [(source.choice(book.rows), 0, 1)]
        if wanted not in book:
            total = total + counterexample(book, wanted).moved(source.randint(-3, 3)).scaled(random_entry(source))
    for pulse in pulses(book):
        total = total + pulse.moved(source.randint(-4, 4)).scaled(random_entry(source))
    return total


def equal_book(source, book):
    """Return a book that is equal but has other given rules."""
    rules = [sum_times([(source.randint(-2, 2), source.choice([1, -2, 3]))], rule) for rule in book.rules]
    for at in range(1, len(rules)):
        rules[at] = sum_plus(rules[at], sum_times([(source.randint(-1, 1), source.randint(-1, 1))], rules[at - 1]))
    return Book(book.rows[::-1], rules[::-1] + [[]] + rules[:1])


def same(one, two):
    """Tell whether two answers are the same, with families by their entries."""
    if isinstance(one, tuple) and isinstance(two, tuple):
        return len(one) == len(two) and all(same(mine, yours) for mine, yours in zip(one, two))
    return one == two
