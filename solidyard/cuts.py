"""Bodies cut and parted by planes, and put together again."""

from solidyard.borders import border_common
from solidyard.fronts import land_before
from solidyard.lands import land_over, land_told
from solidyard.planes import over
from solidyard.rims import land_part
from solidyard.walls import body_hull, body_sides, body_told, border_before, hull_joined, walls_kept


def cut(body, plane):
    """The land, in a plane, of the points right in front of which and right behind which the body lies."""
    sides = body_sides(body)
    return land_told(plane, border_common(plane, border_before(sides, plane), border_before(sides, over(plane))))


def part(body, plane):
    """The body of the points of a body that lie in front of a plane."""
    # In front of the plane each wall is what it was; in the plane itself what lies before it is shut in.
    return walls_kept([land_part(wall, plane) for wall in body] + [land_over(land_before(body, plane))])


def parted(pieces, plane):
    """The pieces that a plane makes of pieces, those without points left out."""
    parts = [part(piece, turn) for piece in pieces for turn in (plane, over(plane))]
    return [piece for piece in parts if piece != ()]


def diced(body, planes):
    """The pieces into which planes part a body, one plane after the other."""
    pieces = [body] if body != () else []
    for plane in planes:
        pieces = parted(pieces, plane)
    return tuple(pieces)


def joined_all(bodies):
    """What lies within one of the bodies at least."""
    hull = {}
    for body in bodies:
        hull = hull_joined(hull, body_hull(body))
    return body_told(hull)
