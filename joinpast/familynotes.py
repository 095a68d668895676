"""Written forms of families."""

from joinpast.digits import read_number, written_number
from joinpast.errors import BadNotation
from joinpast.families import Family
from joinpast.notelines import ended_lines, read_rows, required, rows_line
from joinpast.plainpolys import normal, spread
from joinpast.sumnotes import format_fraction, format_polynomial, read_fraction, read_polynomial

HEADS = ("rows ", "first ", "before ", "after ")


def format_family(family):
    """Return the written form of a family, with its fields."""
    lines = [
        rows_line(family.rows),
        HEADS[1] + written_number(family.first),
        HEADS[2] + format_polynomial(family.before),
        HEADS[3] + format_polynomial(family.after),
    ]
    for row, entries in zip(family.rows, family.entries):
        lines.append(" ".join([row] + [format_fraction(entry) for entry in entries]))
    return "".join([line + "\n" for line in lines])


def parse_family(text):
    """Return the family that is written so, with these fields."""
    lines, rest = ended_lines(text)
    rows = required(read_rows(line_at(lines, 0)), 0)
    first = required(read_number(behind_head(lines, 1)), 1)
    before = required(read_normal(behind_head(lines, 2)), 2)
    after = required(read_normal(behind_head(lines, 3)), 3)
    entries = []
    for at in range(len(rows)):
        sequence = required(read_entries(line_at(lines, 4 + at), rows[at]), 4 + at)
        if not entries and len(sequence) < max(spread(before), spread(after)):
            raise BadNotation(4)
        if entries and len(sequence) != len(entries[0]):
            raise BadNotation(4 + at)
        entries.append(sequence)
    if len(lines) > 4 + len(rows) or rest:
        raise BadNotation(4 + len(rows))
    return Family(rows, first, entries, before=before, after=after)


def line_at(lines, at):
    """Return the line with this index, or an empty one, which is always wrong."""
    return lines[at] if at < len(lines) else ""


def behind_head(lines, at):
    """Return what stands behind the word of a line, or nothing if it has another one."""
    line = line_at(lines, at)
    return line[len(HEADS[at]):] if line.startswith(HEADS[at]) else ""


def read_normal(text):
    """Return the normal polynomial that is written so, or None."""
    p = read_polynomial(text)
    return p if p and normal(p) == p else None


def read_entries(line, row):
    """Return the entries of a line that begins with the row, or None."""
    words = line.split(" ")
    entries = [read_fraction(word) for word in words[1:]]
    if words[0] != row or any([entry is None for entry in entries]):
        return None
    return entries
