"""Points, ways between them, and the turn of four points."""

from solidyard.errors import LastNought
from solidyard.lowest import lowest_over, sign


def point(x, y, z, w):
    """The point of the measures x / w, y / w and z / w."""
    if w == 0:
        raise LastNought("the last number of a point is not 0")
    return lowest_over((x, y, z, w))


def amid(p, q):
    """The middle of two points."""
    x, y, z = [p[k] * q[3] + q[k] * p[3] for k in range(3)]
    return point(x, y, z, 2 * p[3] * q[3])


def way_from(p, q):
    """The way from p to q: q's measures less p's, times both bottoms to make them whole."""
    # Bottoms are above 0, so signs and directions stay as they are.
    return tuple([q[k] * p[3] - p[k] * q[3] for k in range(3)])


def dot(u, v):
    """The sum of the products of the first three numbers of two tuples."""
    return u[0] * v[0] + u[1] * v[1] + u[2] * v[2]


def cross(u, v):
    """The way upright on the first three numbers of two tuples; noughts where these go along one line."""
    return (
        u[1] * v[2] - u[2] * v[1],
        u[2] * v[0] - u[0] * v[2],
        u[0] * v[1] - u[1] * v[0],
    )


def axis_of(way):
    """The place of the first number that is not 0, of the first three of a tuple, which are not all 0."""
    axis = 0
    while way[axis] == 0:
        axis += 1
    return axis


def turn(p, q, r, s):
    """1, 0 or -1: the sign of the determinant of the ways from p to q, to r and to s."""
    return sign(dot(way_from(p, q), cross(way_from(p, r), way_from(p, s))))
