"""Lines of written forms."""

from joinpast.errors import BadNotation
from joinpast.rowsets import is_row_name


def required(value, line):
    """Return what was read from a line, or raise an error if that is None."""
    if value is None:
        raise BadNotation(line)
    return value


def ended_lines(text):
    """Return the lines that are ended by a newline, and what stands behind them."""
    lines = text.split("\n")
    return lines[:-1], lines[-1]


def rows_line(rows):
    """Return the line of a row set."""
    return " ".join(["rows", *rows])


def read_rows(line):
    """Return the row set of a line, or None."""
    words = line.split(" ")
    names = words[1:]
    if words[0] != "rows" or not names or not all([is_row_name(name) for name in names]):
        return None
    return tuple(names) if sorted(set(names)) == names else None
