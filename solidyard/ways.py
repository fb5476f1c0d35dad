"""The walls that a half line meets."""

from solidyard.borders import meetings, standing
from solidyard.ends import in_order
from solidyard.errors import MeetsEdge, NoWay, OnWall
from solidyard.lands import land_place
from solidyard.lines import line_along, spot
from solidyard.planes import height
from solidyard.points import axis_of, cross, dot, way_from
from solidyard.rings import sides_of
from solidyard.volumes import on_wall


def line_from(point, way):
    """The line through a point along a way, in its one form."""
    return line_along(tuple([point[3] * number for number in way]), cross(point, way))


def lies_ahead(point, way, here):
    """True where a point of the line lies on the half line from a point along a way."""
    return dot(way_from(point, here), way) > 0


def meets_rings(wall, line, point, way):
    """True where a half line in the plane of a wall that does not hold its point meets sides of the wall."""
    # Sides along the line have neighbours that meet it.
    met = meetings(sides_of(wall[1]), standing(wall[0], line))
    return any(lies_ahead(point, way, here) for here in met)


def place_met(wall, line, point, way):
    """The point in which a half line meets a wall, or None; refuses one that meets a side of it."""
    here = spot(line, wall[0])
    if here is None:
        if height(wall[0], point) == 0 and meets_rings(wall, line, point, way):
            raise MeetsEdge("the half line meets an edge along a wall")
        return None
    if not lies_ahead(point, way, here):
        return None
    against = land_place(wall, here)
    if against == 0:
        raise MeetsEdge("the half line meets an edge")
    return here if against == 1 else None


def beyond(body, point, way):
    """The planes of the walls that the half line from a point along a way meets, in this order."""
    if way == (0, 0, 0):
        raise NoWay("the way is nought")
    if any(on_wall(wall, point) for wall in body):
        raise OnWall("the point is on a wall")
    line = line_from(point, way)
    planes = {}
    for wall in body:
        here = place_met(wall, line, point, way)
        if here in planes:
            raise MeetsEdge("the half line meets two walls at once")
        if here is not None:
            planes[here] = wall[0]
    met = in_order(line, list(planes))
    # A line's way begins with a number above 0, so the half line may go against it.
    if way[axis_of(way)] < 0:
        met.reverse()
    return tuple([planes[here] for here in met])
