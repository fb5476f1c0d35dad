"""Lines, each with one way along it."""

from solidyard.errors import NoLine
from solidyard.lowest import lowest_over, lowest_terms, opposite
from solidyard.points import cross, dot, way_from


def line_along(way, moment):
    """The line of a way, not three noughts, and of what the measures of each of its points crossed with it give."""
    terms = lowest_terms(way + moment)
    return terms if way > (0, 0, 0) else opposite(terms)


def line_through(p, q):
    """The line that holds two unlike points."""
    if p == q:
        raise NoLine("a point and itself tell no line")
    # p crossed with the way to q comes to p crossed with q, as p crossed with itself is nought.
    return line_along(way_from(p, q), cross(p, q))


def on_line(line, point):
    """True where the line holds the point."""
    return cross(point, line) == tuple([point[3] * number for number in line[3:]])


def line_common(one, other):
    """The line that two planes hold, or None where they lie alongside or hold the same points."""
    way = cross(one, other)
    if way == (0, 0, 0):
        return None
    moment = tuple([one[3] * other[k] - other[3] * one[k] for k in range(3)])
    return line_along(way, moment)


def spot(line, plane):
    """The one point of a line that a plane holds, or None where it holds none or all of them."""
    slope = dot(plane, line)
    if slope == 0:
        return None
    upright = cross(plane, line[3:])
    x, y, z = [upright[k] - plane[3] * line[k] for k in range(3)]
    return lowest_over((x, y, z, slope))
