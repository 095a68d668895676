"""Written forms of books."""

from joinpast.books import Book
from joinpast.errors import BadNotation
from joinpast.notelines import ended_lines, read_rows, required, rows_line
from joinpast.sumnotes import format_sum, read_sum
from joinpast.sums import rows_of


def format_book(book):
    """Return the written form of a book, with its given rules."""
    lines = [rows_line(book.rows)] + ["rule " + format_sum(rule) for rule in book.given]
    return "".join([line + "\n" for line in lines])


def parse_book(text):
    """Return the book that is written so, with these given rules."""
    lines, rest = ended_lines(text)
    rows = required(read_rows(lines[0]) if lines else None, 0)
    rules = [required(read_rule(lines[at], rows), at) for at in range(1, len(lines))]
    if rest:
        raise BadNotation(len(lines))
    return Book(rows, rules)


def read_rule(line, rows):
    """Return the rule of a line, which has only these rows, or None."""
    if not line.startswith("rule "):
        return None
    rule = read_sum(line[len("rule "):])
    if rule is None or any([row not in rows for row in rows_of(rule)]):
        return None
    return rule
