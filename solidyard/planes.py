"""Planes with a front and a back."""

from solidyard.errors import NoPlane
from solidyard.lowest import lowest_terms, opposite
from solidyard.points import cross, dot, way_from


def plane(a, b, c, d):
    """The plane of four whole numbers, the first three not all 0."""
    if a == 0 and b == 0 and c == 0:
        raise NoPlane("the first three numbers are 0")
    return lowest_terms((a, b, c, d))


def height(plane, point):
    """0 for a point that the plane holds, above 0 in front of it, below 0 behind it."""
    a, b, c, d = plane
    x, y, z, w = point
    return a * x + b * y + c * z + d * w


def over(plane):
    """The plane turned over."""
    return opposite(plane)


def plane_through(p, q, r):
    """The plane that holds three points, which go round to the left as seen from its front."""
    # Where some line holds the points this comes to three noughts, of which plane makes none.
    upright = cross(way_from(p, q), way_from(p, r))
    a, b, c = [number * p[3] for number in upright]
    return plane(a, b, c, -dot(upright, p))
