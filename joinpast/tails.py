"""How a finite stretch goes on by polynomials, and how stretches are checked."""

from joinpast.errors import BadStretch
from joinpast.ratios import fraction, over, weighted


def require_even(rows, sequences):
    """Raise an error unless there is one sequence a row, all equally long."""
    if len(sequences) != rows:
        raise BadStretch(len(sequences))
    for sequence in sequences:
        if len(sequence) != len(sequences[0]):
            raise BadStretch(len(sequence))


def plain_window(sequences):
    """Return the sequences of fractions as tuples of fractions."""
    return tuple([tuple([fraction(entry) for entry in sequence]) for sequence in sequences])


def prolonged(entries, p, count):
    """Return the entries and `count` more, in which p applied gives zeros.

    There are at least as many entries as the span of p.
    """
    out = list(entries)
    last, leading = p[-1]
    factors = [coefficient for _, coefficient in p[:-1]]
    for _ in range(count):
        start = len(out) - last
        held = [out[start + shift] for shift, _ in p[:-1]]
        out.append(over(weighted(factors, held), -leading))
    return out


def mirrored(p):
    """Return the polynomial that looks back as far as p looks ahead."""
    return tuple([(-shift, coefficient) for shift, coefficient in p[::-1]])


def between(entries, ends, low, high):
    """Return the entries from `low` to `high - 1`, counted from the first one.

    `ends` are the normal polynomials by which the entries go on to the left
    and to the right.
    """
    before, after = ends
    out = prolonged(entries, after, high - len(entries))
    if low >= 0:
        return tuple(out[low:high])
    out = prolonged(out[::-1], mirrored(before), -low)[::-1]
    return tuple(out[:high - low])


def slid(parts, windows, low, length):
    """Return the values at `length` places of a sum with these parts.

    Each window begins `low` places behind the first one of these places.
    """
    factors = [coefficient for part in parts for _, coefficient in part]
    values = []
    for at in range(length):
        held = [
            window[at + shift - low]
            for part, window in zip(parts, windows)
            for shift, _ in part
        ]
        values.append(weighted(factors, held))
    return tuple(values)
