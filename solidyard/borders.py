"""Borders: sets of points on several lines, by which lands are known.

A border is a dict of rows by their lines; a line on which it has no points is left out.
A border in a plane is that of the land of the points from which a half line in the plane
meets it an odd number of times.
"""

from solidyard.lines import line_through
from solidyard.lowest import lowest_over
from solidyard.planes import height
from solidyard.points import cross, dot
from solidyard.rows import row_common, row_either, row_of_ends


def border_kept(rows):
    """The border of a dict of rows by their lines, of which some may have no points."""
    return {line: rows[line] for line in rows if rows[line] != ()}


def border_of_ends(ends):
    """The border of a dict of lists of ends by their lines; an end that comes an even number of times is none."""
    return border_kept({line: row_of_ends(line, ends[line]) for line in ends})


def border_of(stretches):
    """The border of the points that lie on an odd number of stretches, pairs of points."""
    ends = {}
    for p, q in stretches:
        if p != q:
            ends.setdefault(line_through(p, q), []).extend([p, q])
    return border_of_ends(ends)


def border_stretches(border):
    """The stretches of a border, line by line."""
    return [stretch for line in border for stretch in border[line]]


def border_either(one, other):
    """The border of the points that only one of two borders has."""
    rows = {**one, **other}
    for line in one:
        if line in other:
            rows[line] = row_either(line, one[line], other[line])
    return border_kept(rows)


def meeting(p, high, q, low):
    """The point between p and q, or one of them, of height 0, where p is high and q low over a plane."""
    if high == 0:
        return p
    if low == 0:
        return q
    return lowest_over(tuple([high * q[k] - low * p[k] for k in range(4)]))


def meetings(stretches, plane):
    """The points in which stretches meet a plane that does not hold them, each with True or False.

    True stands where an odd number of stretches come to the point from the front of the plane
    and do not go on in front of it: in the plane of the stretches these points are the ends of
    what lies right in front. Any multiple of the plane's numbers, above 0, does as well.
    """
    met = {}
    for p, q in stretches:
        high, low = height(plane, p), height(plane, q)
        if high * low > 0 or high == low:
            continue
        here = meeting(p, high, q, low)
        met[here] = met.get(here, False) != ((high > 0) != (low > 0))
    return met


def ends_before(stretches, plane):
    """The ends, in no order, of what lies right in front of a plane, of the land that stretches shut in."""
    met = meetings(stretches, plane)
    return [p for p in met if met[p]]


def row_before(stretches, line, plane):
    """The row, on the line that a land's plane and another one share, of the points with the land right in front."""
    return row_of_ends(line, ends_before(stretches, plane))


def standing(plane, line):
    """A plane that stands on the plane through a line in it, its front on the left of the line's way."""
    # Not in its lowest terms, because nobody asks but how heights over it compare.
    return cross(plane, line) + (dot(plane, line[3:]),)


def left_row(stretches, plane, line):
    """The row of the points of a line in a plane right at the left of which the land lies that stretches shut in."""
    return row_before(stretches, line, standing(plane, line))


def common_row(line, row, left, other_row, other_left):
    """The row of the border of what two lands share, by the row of each and by what of each lies at the left."""
    # At the right of the line each land is what it is at the left, but turned over along its own row.
    # So what both have is unlike at the two sides where an odd number of these three rows has the point.
    both = row_common(line, row, other_row)
    one_alone = row_common(line, row, other_left)
    other_alone = row_common(line, left, other_row)
    return row_either(line, both, row_either(line, one_alone, other_alone))


def border_common(plane, one, other):
    """The border of what two lands in a plane share, by their borders."""
    if not one or not other:
        return {}
    sides, other_sides = border_stretches(one), border_stretches(other)
    rows = {}
    for line in {**one, **other}:
        row, other_row = one.get(line, ()), other.get(line, ())
        # What of the one lies at the left matters on the other one's row only.
        left = left_row(sides, plane, line) if other_row else ()
        other_left = left_row(other_sides, plane, line) if row else ()
        rows[line] = common_row(line, row, left, other_row, other_left)
    return border_kept(rows)


def border_less(plane, one, other):
    """The border of the first land without the second, by the borders of both."""
    return border_either(one, border_common(plane, one, other))


def border_joined(plane, one, other):
    """The border of what belongs to one of two lands or both, by their borders."""
    return border_either(border_either(one, other), border_common(plane, one, other))
