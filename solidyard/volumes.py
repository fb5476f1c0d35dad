"""Volumes of bodies, and places of points against them."""

from solidyard.borders import border_stretches, row_before
from solidyard.lands import land_place, spread
from solidyard.lines import line_common
from solidyard.lowest import plus, times
from solidyard.planes import height
from solidyard.rows import row_place
from solidyard.walls import body_sides, border_before


def volume(body):
    """How much a body holds."""
    total = (0, 1)
    for wall in body:
        total = plus(total, times(spread(wall), (-wall[0][3], 1)))
    return times(total, (1, 3))


def on_wall(wall, point):
    """True where a point is on a wall."""
    return height(wall[0], point) == 0 and land_place(wall, point) >= 0


def place(body, point):
    """0 for a point on a wall, 1 for one within the body, -1 for one without."""
    if any(on_wall(wall, point) for wall in body):
        return 0
    x, y, z, w = point
    level, upright = (w, 0, 0, -x), (0, w, 0, -y)
    # Round a point on no wall nothing changes, so what lies right in front of planes through it tells of it.
    border = border_before(body_sides(body), level)
    line = line_common(level, upright)
    return row_place(line, row_before(border_stretches(border), line, upright), point)
