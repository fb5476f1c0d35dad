"""Bodies, told by the lists of their walls."""

from solidyard.borders import border_of, border_stretches
from solidyard.errors import NotClosed, NotFlat
from solidyard.planes import height, plane_through
from solidyard.points import cross, way_from
from solidyard.rings import ring_sides, sides_of
from solidyard.walls import body_told, hull_of


def ring_plane(ring):
    """A plane through the first points of a ring that no line holds; None where some line holds all."""
    others = [p for p in ring if p != ring[0]]
    for p in others:
        if cross(way_from(ring[0], others[0]), way_from(ring[0], p)) != (0, 0, 0):
            return plane_through(ring[0], others[0], p)
    return None


def flat_planes(rings):
    """The planes of rings, None for a ring that some line holds; refuses rings that are not flat."""
    planes = []
    for at, ring in enumerate(rings):
        plane = ring_plane(ring)
        if plane is not None and any([height(plane, p) != 0 for p in ring]):
            raise NotFlat(at)
        planes.append(plane)
    return planes


def refuse_gaps(rings):
    """Refuses rings that are not closed."""
    gaps = border_stretches(border_of(sides_of(rings)))
    if gaps:
        raise NotClosed(min([tuple(sorted(gap)) for gap in gaps]))


def body_of(rings):
    """The body that a heap of rings shuts in."""
    planes = flat_planes(rings)
    refuse_gaps(rings)
    return body_told(hull_of([(plane, ring_sides(ring)) for plane, ring in zip(planes, rings) if plane is not None]))


def heap_of(body):
    """The rings of all walls of a body."""
    return tuple([ring for plane, rings in body for ring in rings])


def is_body(body):
    """True where planes and rings are the list of a body."""
    try:
        return body_of(heap_of(body)) == body
    except (NotFlat, NotClosed):
        return False
