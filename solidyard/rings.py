"""Rings: closed walks, and how they go round a land."""

from solidyard.borders import border_stretches, meetings, standing
from solidyard.ends import in_order
from solidyard.lowest import sign
from solidyard.points import cross, dot, way_from


def ring_sides(ring):
    """The sides of a ring, those from a point to itself among them."""
    return list(zip(ring, ring[1:] + ring[:1]))


def sides_of(rings):
    """The sides of all rings."""
    return [side for ring in rings for side in ring_sides(ring)]


def ring_begun(ring):
    """The least of the tuples that come of beginning a ring, a tuple, at any of its places."""
    least = min(ring)
    return min([ring[k:] + ring[:k] for k in range(len(ring)) if ring[k] == least])


def rings_told(rings):
    """Rings, tuples in any order and begun anywhere, as a land tells them."""
    return tuple(sorted([ring_begun(ring) for ring in rings]))


def pieces_on(plane, line, row, stretches):
    """The pieces of a border's row on a line, parted wherever the border meets the line.

    Each is a pair of points in the order in which one goes with the land on the left.
    """
    met = meetings(stretches, standing(plane, line))
    ends = {end: True for pair in row for end in pair}
    pieces = []
    within = left = False
    last = None
    for here in in_order(line, list({**met, **ends})):
        if within:
            pieces.append((last, here) if left else (here, last))
        within = within != (here in ends)
        left = left != met.get(here, False)
        last = here
    return pieces


def comes_sooner(plane, way, one, other):
    """True where who turns to the right, from a way on, comes upon one way ahead of the other one."""
    side, other_side = [sign(dot(plane, cross(way, to))) for to in (one, other)]
    # On the right of the way are the first ones, then comes straight back, then the left.
    if side != other_side:
        return side < other_side
    return dot(plane, cross(one, other)) < 0


def gone_on(plane, start, here, goals):
    """Of the points to which pieces lead from here the one to which a walk goes on that came from start."""
    back = way_from(here, start)
    best = goals[0]
    for goal in goals[1:]:
        if comes_sooner(plane, back, way_from(here, goal), way_from(here, best)):
            best = goal
    return best


def walks_along(plane, pieces):
    """The closed walks of the pieces of a border, as lists of pieces, each piece in just one of them."""
    goals = {}
    for start, here in pieces:
        goals.setdefault(start, []).append(here)
    walked = set()
    walks = []
    for first in pieces:
        walk = []
        start, here = first
        while (start, here) not in walked:
            walked.add((start, here))
            walk.append((start, here))
            start, here = here, gone_on(plane, start, here, goals[here])
        if walk:
            walks.append(walk)
    return walks


def turning_points(walk, lines):
    """The points at which a walk changes its direction, by the lines of its pieces."""
    return tuple([piece[1] for piece, after in zip(walk, walk[1:] + walk[:1]) if lines[piece] != lines[after]])


def rings_round(plane, border):
    """The rings of the land in a plane that a border shuts in, as the land tells them."""
    stretches = border_stretches(border)
    lines = {}
    for line in border:
        for piece in pieces_on(plane, line, border[line], stretches):
            lines[piece] = line
    return rings_told([turning_points(walk, lines) for walk in walks_along(plane, lines)])
