"""Written forms of fractions, polynomials and sums."""

from joinpast.digits import read_number, written_number
from joinpast.notelines import required
from joinpast.polynomials import polynomial
from joinpast.ratios import fraction
from joinpast.rowsets import is_row_name
from joinpast.sums import ordered


def format_fraction(value):
    """Return the written form of a fraction."""
    top, bottom = fraction(value)
    if bottom == 1:
        return written_number(top)
    return written_number(top) + "/" + written_number(bottom)


def parse_fraction(text):
    """Return the fraction that is written so."""
    return required(read_fraction(text), 0)


def format_polynomial(p):
    """Return the written form of a polynomial."""
    return listed([[coefficient, shift] for shift, coefficient in polynomial(p)])


def parse_polynomial(text):
    """Return the polynomial that is written so."""
    return required(read_polynomial(text), 0)


def format_sum(terms):
    """Return the written form of a sum."""
    return listed([[coefficient, row, shift] for row, shift, coefficient in ordered(terms)])


def parse_sum(text):
    """Return the sum that is written so."""
    return required(read_sum(text), 0)


def listed(items):
    """Return items of numbers and row names, joined by commas."""
    words = [
        " ".join([part if isinstance(part, str) else written_number(part) for part in item])
        for item in items
    ]
    return ", ".join(words) if words else "0"


def read_fraction(text):
    """Return the fraction that is written so, or None."""
    numbers = [read_number(part) for part in text.split("/")]
    if len(numbers) > 2 or any([number is None for number in numbers]):
        return None
    if len(numbers) == 1:
        return (numbers[0], 1)
    value = (numbers[0], numbers[1])
    return value if numbers[1] > 1 and fraction(value) == value else None


def read_polynomial(text):
    """Return the polynomial that is written so, or None."""
    pairs = []
    for words in items_of(text):
        numbers = [read_number(word) for word in words]
        if len(numbers) != 2 or numbers[0] is None or numbers[1] is None:
            return None
        pairs.append((numbers[1], numbers[0]))
    return tuple(pairs) if polynomial(pairs) == tuple(pairs) else None


def read_sum(text):
    """Return the sum that is written so, or None."""
    terms = []
    for words in items_of(text):
        if len(words) != 3 or not is_row_name(words[1]):
            return None
        coefficient = read_number(words[0])
        shift = read_number(words[2])
        if coefficient is None or shift is None:
            return None
        terms.append((words[1], shift, coefficient))
    return tuple(terms) if ordered(terms) == tuple(terms) else None


def items_of(text):
    """Return the words of each item of a list, which is empty for zero."""
    if text == "0":
        return []
    return [item.split(" ") for item in text.split(", ")]
