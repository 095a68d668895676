"""The least polynomial by which sequences go on."""

from joinpast.divisors import common
from joinpast.modular import found_divisor
from joinpast.plainpolys import ONE, divided, normal
from joinpast.ratios import without_bottoms


def least_tail(sequences, p):
    """Return the least polynomial by which sequences go on that go on by p.

    p is normal, and as many entries are passed as its span tells. A sequence
    is what comes out, place by place, if a certain polynomial is divided by p;
    so what these two have in common can be left out.
    """
    whole = without_bottoms(sequences)
    tops = [top for top in [dividend(sequence, p) for sequence in whole] if top]
    if not tops:
        return ONE
    shared = found_divisor(p, tops)
    if shared is None:
        shared = p
        for top in tops:
            shared = common(shared, top)
    return normal(divided(p, shared, 0)[1])


def dividend(sequence, p):
    """Return the polynomial that, divided by p, gives the sequence.

    Its coefficients, from the greatest shift on, are the values of p where it
    still reaches over the beginning of the sequence and there are zeros.
    """
    length = p[-1][0]
    found = []
    for at in range(length):
        values = [factor * sequence[at - length + shift] for shift, factor in p if shift >= length - at]
        found.append((length - 1 - at, sum(values)))
    return tuple([pair for pair in found[::-1] if pair[1] != 0])
