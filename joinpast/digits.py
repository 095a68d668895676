"""Whole numbers in decimal digits, of any size.

Numbers are written and read in pieces, because Python itself refuses to do
this for numbers with thousands of digits.
"""

from joinpast.rowsets import DIGITS

PIECE = 64
BASE = 10 ** 64


def written_number(number):
    """Return the digits of a whole number, after a minus if it is negative."""
    rest = abs(number)
    pieces = []
    while rest >= BASE:
        rest, low = divmod(rest, BASE)
        pieces.append(str(low).zfill(PIECE))
    pieces.append(str(rest))
    sign = "-" if number < 0 else ""
    return sign + "".join(pieces[::-1])


def read_number(text):
    """Return the whole number that is written so, or None."""
    digits = text[1:] if text[:1] == "-" else text
    if not digits or not all([sign in DIGITS for sign in digits]):
        return None
    number = 0
    start = len(digits) % PIECE
    for at in range(start, len(digits) + 1, PIECE):
        piece = digits[max(0, at - PIECE):at]
        if piece:
            number = number * BASE + int(piece)
    if digits != text:
        number = -number
    return number if written_number(number) == text else None
