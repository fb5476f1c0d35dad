"""Tables, and what they move."""

from solidyard.errors import FlatMove
from solidyard.lowest import lowest_over, lowest_terms, opposite
from solidyard.points import cross, dot
from solidyard.rings import rings_told


def determinant(first, second, third):
    """The determinant of the first three numbers of three rows."""
    return dot(first, cross(second, third))


def table(first, second, third, bottom):
    """The table of three rows of four numbers and a bottom."""
    if bottom == 0 or determinant(first, second, third) == 0:
        raise FlatMove("the numbers move all points into a plane, or nowhere")
    terms = lowest_over(first + second + third + (bottom,))
    return (terms[0:4], terms[4:8], terms[8:12], terms[12])


def row_sum(row, numbers):
    """The sum of the products of the four numbers of a row with four numbers."""
    return dot(row, numbers) + row[3] * numbers[3]


def moved_point(point, by):
    """Where a table takes a point."""
    first, second, third, bottom = by
    return lowest_over((row_sum(first, point), row_sum(second, point), row_sum(third, point), bottom * point[3]))


def rows_added(one, other, third, times):
    """Three rows, each times one of three numbers, added number by number."""
    return tuple([times[0] * one[k] + times[1] * other[k] + times[2] * third[k] for k in range(4)])


def moved_plane(plane, by):
    """The plane of the moved points of a plane, its front where those of the front are."""
    # A point lies in front of the moved plane where the point from which it was moved lies in front of the plane.
    first, second, third, bottom = undone(by)
    a, b, c, d = rows_added(first, second, third, plane)
    return lowest_terms((a, b, c, d + plane[3] * bottom))


def moved(body, by):
    """The body of the moved points of a body."""
    # Where the determinant is below 0 left and right are exchanged, so walls are walked round the other way.
    step = 1 if determinant(by[0], by[1], by[2]) > 0 else -1
    walls = []
    for plane, rings in body:
        told = [tuple([moved_point(p, by) for p in ring[::step]]) for ring in rings]
        walls.append((moved_plane(plane, by), rings_told(told)))
    return tuple(sorted(walls))


def after(first, second):
    """The table that takes each point where the first and then the second one take it."""
    one, other, third, bottom = first
    rows = []
    for row in second[:3]:
        a, b, c, d = rows_added(one, other, third, row)
        rows.append((a, b, c, d + row[3] * bottom))
    return table(rows[0], rows[1], rows[2], bottom * second[3])


def undone(by):
    """The table that takes each moved point back."""
    first, second, third, bottom = by
    # What is upright on two rows leaves the third one alone, so these three ways undo the turns of the rows.
    ways = (cross(second, third), cross(third, first), cross(first, second))
    shift = opposite((first[3], second[3], third[3]))
    rows = []
    for k in range(3):
        back = (ways[0][k], ways[1][k], ways[2][k])
        rows.append(tuple([bottom * number for number in back]) + (dot(back, shift),))
    return table(rows[0], rows[1], rows[2], determinant(first, second, third))
