"""Corners and bits of bodies, and how many there are of them."""

from solidyard.borders import standing
from solidyard.ends import in_order
from solidyard.lands import spread
from solidyard.lines import line_through
from solidyard.planes import height
from solidyard.rings import ring_sides, sides_of


def corners(body):
    """The points that are named in the rings of a body's walls, sorted."""
    return tuple(sorted({p for plane, rings in body for ring in rings for p in ring}))


def corners_along(plane, line, held):
    """Of corners in a plane those that a line in it holds, each ahead of the next one."""
    upright = standing(plane, line)
    return in_order(line, [p for p in held if height(upright, p) == 0])


def side_steps(p, q, spots):
    """The spots on the side from p, which is one of them, to q, which is left out; spots go either way."""
    start, goal = spots.index(p), spots.index(q)
    return spots[start:goal] if start < goal else spots[start:goal:-1]


def rings_cut(wall, all_corners):
    """The rings of a wall with those corners put in that lie amid their sides."""
    plane, rings = wall
    # Only these can lie on a side of this wall, and they are few.
    held = [p for p in all_corners if height(plane, p) == 0]
    spots = {}
    found = []
    for ring in rings:
        walk = []
        for p, q in ring_sides(ring):
            line = line_through(p, q)
            if line not in spots:
                spots[line] = corners_along(plane, line, held)
            walk.extend(side_steps(p, q, spots[line]))
        found.append(tuple(walk))
    return found


def bits(body):
    """The sides of a body's walls, cut at the corners amid them: pairs of points, the lesser one first, sorted."""
    all_corners = corners(body)
    sides = [side for wall in body for side in sides_of(rings_cut(wall, all_corners))]
    return tuple(sorted({(min(p, q), max(p, q)) for p, q in sides}))


def is_outer(plane, ring):
    """True where a ring of a wall goes round land, False where it goes round a hole."""
    return spread((plane, (ring,)))[0] > 0


def counts(body):
    """How many corners, bits, outer rings and inner rings a body has."""
    outer = [is_outer(plane, ring) for plane, rings in body for ring in rings]
    return (len(corners(body)), len(bits(body)), outer.count(True), outer.count(False))
