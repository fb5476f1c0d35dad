"""Lands: sets of points of a plane, told by the rings round them."""

from solidyard.borders import border_of, row_before
from solidyard.errors import OffPlane
from solidyard.lines import line_common
from solidyard.lowest import divided, fraction, plus
from solidyard.planes import height, over
from solidyard.points import axis_of, cross, dot, way_from
from solidyard.rings import rings_round, rings_told, sides_of
from solidyard.rows import row_place


def refuse_off_plane(plane, points):
    """Refuses points of which the plane does not hold all."""
    for held in points:
        if height(plane, held) != 0:
            raise OffPlane("the plane does not hold the point")


def land_told(plane, border):
    """The land that a border in a plane shuts in."""
    return (plane, rings_round(plane, border))


def land_border(land):
    """The border of a land."""
    return border_of(sides_of(land[1]))


def land_of(plane, rings):
    """The land of the points round which the rings go by an odd count."""
    refuse_off_plane(plane, [p for ring in rings for p in ring])
    return land_told(plane, border_of(sides_of(rings)))


def is_land(land):
    """True where a plane and rings are told as a land is."""
    try:
        return land_of(land[0], land[1]) == land
    except OffPlane:
        return False


def land_over(land):
    """The land with the same points in the plane turned over."""
    # Seen from the other side the land is on the left of who goes the other way.
    return (over(land[0]), rings_told([ring[::-1] for ring in land[1]]))


def on_side(p, q, point):
    """True where the point lies between p and q or is one of them."""
    to, fro = way_from(point, p), way_from(point, q)
    return cross(to, fro) == (0, 0, 0) and dot(to, fro) <= 0


def level_through(plane, point):
    """A plane through a point, upright on an axis, that has one line in common with the plane."""
    if plane[1] == 0 and plane[2] == 0:
        return (0, point[3], 0, -point[1])
    return (point[3], 0, 0, -point[0])


def land_place(land, point):
    """0 for a point on a side of the land's rings, 1 for one within, -1 for another point of the plane."""
    refuse_off_plane(land[0], (point,))
    sides = sides_of(land[1])
    if any([on_side(p, q, point) for p, q in sides]):
        return 0
    # On no side the point is no end of a rim, so it is within just where it is within the rim.
    level = level_through(land[0], point)
    line = line_common(land[0], level)
    return row_place(line, row_before(sides, line, level), point)


def spread(land):
    """How often the plane's first three numbers, as a way, measure the land."""
    axis = axis_of(land[0])
    total = (0, 1)
    for p, q in sides_of(land[1]):
        total = plus(total, fraction(cross(p, q)[axis], p[3] * q[3]))
    return divided(total, (2 * land[0][axis], 1))
