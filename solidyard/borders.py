"""Borders: sets of points on several lines, by which lands and bodies are known.

A border is the sorted tuple of the pairs (line, row) of all lines on which it has points.
"""

from solidyard.lines import line_through
from solidyard.rows import row_either, row_of


def border_told(rows):
    """The border of a dict of rows by their lines."""
    return tuple([(line, rows[line]) for line in sorted(rows) if rows[line] != ()])


def border_of(stretches):
    """The border of the points that lie on an odd number of stretches, pairs of points."""
    by_line = {}
    for p, q in stretches:
        if p != q:
            by_line.setdefault(line_through(p, q), []).append((p, q))
    return border_told({line: row_of(line, by_line[line]) for line in by_line})


def border_row(border, line):
    """The row that a border has on a line."""
    for borne, row in border:
        if borne == line:
            return row
    return ()


def border_either(one, other):
    """The border of the points that only one of two borders has."""
    rows = {line: row for line, row in one}
    for line, row in other:
        rows[line] = row_either(line, rows.get(line, ()), row)
    return border_told(rows)


def border_stretches(border):
    """The stretches of a border, line by line."""
    return tuple([stretch for line, row in border for stretch in row])
