"""Rows: sets of points on a line, told by stretches."""

from solidyard.ends import ends_kept, is_ahead, odd_ends
from solidyard.errors import OffLine
from solidyard.lines import on_line


def refuse_off_line(line, points):
    """Refuses points of which the line does not hold all."""
    for held in points:
        if not on_line(line, held):
            raise OffLine("the line does not hold the point")


def row_ends(row):
    """The ends of a row, in their order."""
    return [end for pair in row for end in pair]


def row_between(ends):
    """The row that has these ends."""
    return tuple(zip(ends[0::2], ends[1::2]))


def row_of_ends(line, points):
    """The row whose ends are the points of the line that come an odd number of times."""
    return row_between(odd_ends(line, points))


def row_of(line, stretches):
    """The row of the points between the two points of an odd number of the stretches."""
    ends = row_ends(stretches)
    refuse_off_line(line, ends)
    return row_of_ends(line, ends)


def row_place(line, row, point):
    """1 for a point within the row, 0 for an end, -1 for another point of the line."""
    refuse_off_line(line, (point,))
    for first, last in row:
        if point == first or point == last:
            return 0
        if is_ahead(line, point, last):
            return 1 if is_ahead(line, first, point) else -1
    return -1


def row_kept(line, one, other, keeps):
    """The row of the points that keeps(in_one, in_other) keeps of two rows."""
    return row_between(ends_kept(line, row_ends(one), row_ends(other), keeps))


def row_joined(line, one, other):
    """The points that one of two rows has, or both."""
    return row_kept(line, one, other, lambda in_one, in_other: in_one or in_other)


def row_common(line, one, other):
    """The points that both of two rows have."""
    return row_kept(line, one, other, lambda in_one, in_other: in_one and in_other)


def row_less(line, one, other):
    """The points of the first row that the second lacks."""
    return row_kept(line, one, other, lambda in_one, in_other: in_one and not in_other)


def row_either(line, one, other):
    """The points that only one of two rows has."""
    return row_of_ends(line, row_ends(one) + row_ends(other))
