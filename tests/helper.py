"""What several tests need: ways to look at answers, and points to ask about.

Expected values are reckoned with Python's own Fraction, never with the program.
"""

import random
from fractions import Fraction
from itertools import product
from math import gcd

GREAT = 10 ** 60 + 7
HUGE = 10 ** 400 + 69
LIMIT = 10 ** 999 + 7  # a thousand figures, the most that DOC.md [3] promises


def is_plain(answer):
    """True where an answer is built as [2] says; True and False stand only for themselves."""
    if type(answer) is tuple:
        return all(is_plain(part) for part in answer)
    return type(answer) in (int, str, bool) or answer is None


def is_numbers(answer, many):
    """True where an answer is a tuple of so many whole numbers, none of them True or False."""
    return type(answer) is tuple and len(answer) == many and all(type(n) is int for n in answer)


def measures(p):
    """The three measures of a point."""
    return tuple(Fraction(n, p[3]) for n in p[:3])


def point_at(x, y, z):
    """The point of three measures, in its one form."""
    parts = [Fraction(n) for n in (x, y, z)]
    bottom = 1
    for part in parts:
        bottom = bottom * part.denominator // gcd(bottom, part.denominator)
    return tuple(int(part * bottom) for part in parts) + (bottom,)


def minus(u, v):
    return tuple(a - b for a, b in zip(u, v))


def crossed(u, v):
    return (
        u[1] * v[2] - u[2] * v[1],
        u[2] * v[0] - u[0] * v[2],
        u[0] * v[1] - u[1] * v[0],
    )


def dotted(u, v):
    return sum(a * b for a, b in zip(u, v))


def signum(number):
    return (number > 0) - (number < 0)


def some_points(many, seed, top=6):
    """Points with small measures over unlike bottoms, always the same ones for one seed."""
    chance = random.Random(seed)
    found = []
    while len(found) < many:
        x, y, z = (Fraction(chance.randint(-top, top), chance.randint(1, 5)) for k in range(3))
        found.append(point_at(x, y, z))
    return found


def whole(numbers):
    """Fractions, not all 0, as whole numbers without a common divisor that stand to one another as these do."""
    numbers = [Fraction(n) for n in numbers]
    bottom = 1
    for n in numbers:
        bottom = bottom * n.denominator // gcd(bottom, n.denominator)
    numbers = [int(n * bottom) for n in numbers]
    return tuple(n // gcd(*numbers) for n in numbers)


class Sheet:
    """A plane with pairs of numbers for its points, from the front the second axis goes to the left of the first."""

    def __init__(self, start, first, second):
        self.start, self.first, self.second = start, first, second
        upright = crossed(first, second)
        self.plane = whole(upright + (-dotted(upright, start),))
        self.back = tuple(-n for n in self.plane)

    def at(self, s, t):
        return point_at(*(a + Fraction(s) * b + Fraction(t) * c for a, b, c in zip(self.start, self.first, self.second)))

    def ring(self, *pairs):
        return tuple(self.at(s, t) for s, t in pairs)

    def square(self, s, t, size=2):
        """A square's corners with its points on the left."""
        return self.ring((s, t), (s + size, t), (s + size, t + size), (s, t + size))

    def land(self, *rings):
        """The land of rings that stand as a land's rings do, but for their beginnings and their order."""
        return self.plane, tuple(sorted(least_start(ring) for ring in rings))

    def land_back(self, *rings):
        """The same in the plane turned over."""
        return self.back, tuple(sorted(least_start(ring[::-1]) for ring in rings))

    def off(self, s, t, step=1):
        """A point off the plane."""
        return point_at(*(a + Fraction(step) * b for a, b in zip(measures(self.at(s, t)), self.plane)))


# Planes along two axes, along one and along none.
SHEETS = (
    Sheet((0, 0, 0), (1, 0, 0), (0, 1, 0)),
    Sheet((Fraction(1, 2), 0, -3), (0, 1, 0), (0, 0, 1)),
    Sheet((1, Fraction(-2, 3), 0), (1, 0, 0), (0, 0, 1)),
    Sheet((0, 5, 0), (1, 0, 1), (0, -1, 0)),
    Sheet((Fraction(1, 3), Fraction(-1, 2), 2), (1, 2, 3), (-1, 0, 2)),
    Sheet((0, Fraction(7, 5), 1), (Fraction(-1, 2), -1, Fraction(1, 3)), (Fraction(1, 7), 1, 0)),
)


def great_sheets():
    """Slanted sheets with numbers of many figures."""
    for great in (GREAT, HUGE):
        yield Sheet((0, great, 0), (great, 1, great + 2), (1, -great, 3))
        yield Sheet((Fraction(great, great + 1), 0, 1), (1, Fraction(1, great), 0), (0, -1, 1))


def least_start(ring):
    return min(tuple(ring[k:] + ring[:k]) for k in range(len(ring)))


# Lands, reckoned anew by cutting all sides at one another and looking at both sides of each piece.

TINY = Fraction(1, 10 ** 40)


def flattened(plane):
    """Two functions: from points of a plane to pairs of numbers, left hand as seen from its front, and back."""
    axis = next(k for k in range(3) if plane[k])
    i, j = (axis + 1) % 3, (axis + 2) % 3
    if plane[axis] < 0:
        i, j = j, i

    def flat(p):
        return measures(p)[i], measures(p)[j]

    def lifted(pair):
        spot = [Fraction(0)] * 3
        spot[i], spot[j] = pair
        spot[axis] = -(plane[3] + plane[i] * spot[i] + plane[j] * spot[j]) / Fraction(plane[axis])
        return point_at(*spot)

    return flat, lifted


def ring_sides(ring):
    """The sides of a ring of pairs or points, those without length left out."""
    ring = list(ring)
    return [(p, q) for p, q in zip(ring, ring[1:] + ring[:1]) if p != q]


def crossed_flat(u, v):
    return u[0] * v[1] - u[1] * v[0]


def is_between(p, q, spot):
    """True where a pair lies between two others or is one of them."""
    to, fro = minus(p, spot), minus(q, spot)
    return crossed_flat(to, fro) == 0 and dotted(to, fro) <= 0


def is_round(sides, spot):
    """True where an odd number of flat sides is met by the half line from a pair, on no side, to the right."""
    odd = False
    for p, q in sides:
        if (p[1] > spot[1]) != (q[1] > spot[1]):
            reach = p[0] + (spot[1] - p[1]) * (q[0] - p[0]) / Fraction(q[1] - p[1])
            odd = odd != (reach > spot[0])
    return odd


def shared_pairs(one, other):
    """The ends of flat sides that lie on both of them, and the pair in which they cross."""
    found = [p for p in one if is_between(*other, p)] + [p for p in other if is_between(*one, p)]
    way, other_way = minus(one[1], one[0]), minus(other[1], other[0])
    slant = crossed_flat(way, other_way)
    if slant:
        step = Fraction(crossed_flat(minus(other[0], one[0]), other_way)) / slant
        spot = one[0][0] + step * way[0], one[0][1] + step * way[1]
        if is_between(*one, spot) and is_between(*other, spot):
            found.append(spot)
    return found


def walked_pieces(sides):
    """The pieces of the border of the land of flat sides, each in the direction with the land on the left."""
    pieces = set()
    for side in sides:
        spots = {p for other in sides for p in shared_pairs(side, other)} | set(side)
        spots = sorted(spots)
        pieces |= set(zip(spots, spots[1:]))
    walked = []
    for p, q in pieces:
        way = minus(q, p)
        middle = (p[0] + q[0]) / Fraction(2), (p[1] + q[1]) / Fraction(2)
        left = is_round(sides, (middle[0] - TINY * way[1], middle[1] + TINY * way[0]))
        right = is_round(sides, (middle[0] + TINY * way[1], middle[1] - TINY * way[0]))
        if left != right:
            walked.append((p, q) if left else (q, p))
    return walked


def turned_right(back, way):
    """By how much one turns to the right from back to reach way: it grows from above 0 to below 4."""
    along, aside = dotted(back, way), -crossed_flat(back, way)
    size = abs(along) + abs(aside)
    share = Fraction(along) / size
    return 1 - share if aside > 0 else 3 + share if aside < 0 else 2


def walks_of(pieces):
    """The closed walks of pieces that keep to their wedges, as lists of the pairs that they come through."""
    left = list(pieces)
    walks = []
    while left:
        walk = [left[0]]
        while True:
            p, q = walk[-1]
            goals = [piece for piece in pieces if piece[0] == q]
            goal = min(goals, key=lambda piece: turned_right(minus(p, q), minus(piece[1], q)))
            if goal == walk[0]:
                break
            walk.append(goal)
        left = [piece for piece in left if piece not in walk]
        walks.append([p for p, q in walk])
    return walks


def land_by_hand(plane, rings):
    """The land of rings in a plane as [19] tells it, reckoned without the program."""
    flat, lifted = flattened(plane)
    sides = [side for ring in rings for side in ring_sides([flat(p) for p in ring])]
    told = []
    for walk in walks_of(walked_pieces(sides)):
        corners = [
            lifted(q) for p, q, r in zip(walk[-1:] + walk[:-1], walk, walk[1:] + walk[:1])
            if crossed_flat(minus(q, p), minus(r, q))
        ]
        told.append(least_start(corners))
    return plane, tuple(sorted(told))


def place_by_hand(plane, rings, p):
    """0 for a point on a side of rings in a plane, else 1 or -1 by odd and even."""
    flat, lifted = flattened(plane)
    sides = [side for ring in rings for side in ring_sides([flat(q) for q in ring])]
    if any(is_between(*side, flat(p)) for side in sides):
        return 0
    return 1 if is_round(sides, flat(p)) else -1


# Bodies, reckoned anew by counting the rings whose lands a half line meets.

WAYS = [(1009, 31 * k + 7, 17 * k * k + 3) for k in range(60)]


def ring_norm(spots):
    """A way upright on the plane of flat measures, or None where some line holds them."""
    for p in spots:
        for q in spots:
            way = crossed(minus(p, spots[0]), minus(q, spots[0]))
            if any(way):
                return way
    return None


def meets_land(spots, start, way):
    """True or False, as a half line meets the land of a ring, or None where it meets a side or keeps to its plane."""
    upright = ring_norm(spots)
    if upright is None:
        return False
    slope, rise = dotted(upright, way), dotted(upright, minus(spots[0], start))
    if slope == 0:
        return None if rise == 0 else False
    step = Fraction(rise) / slope
    if step < 0:
        return False
    axis = next(k for k in range(3) if upright[k])
    flat = [spot[:axis] + spot[axis + 1:] for spot in spots]
    hit = tuple(a + step * b for a, b in zip(start, way))
    hit = hit[:axis] + hit[axis + 1:]
    sides = ring_sides(flat)
    if any(is_between(*side, hit) for side in sides):
        return None
    return is_round(sides, hit)


def is_within(heap, spot):
    """True where three measures, on no land and no side of a heap of flat rings, lie within its body."""
    for way in WAYS:
        met = [meets_land([measures(p) for p in ring], spot, way) for ring in heap]
        if None not in met:
            return met.count(True) % 2 == 1
    raise AssertionError("all half lines meet sides")


def is_wall(heap, plane, p):
    """True where, at a point of a plane near which no other ring's land is, a wall of the body looks to the front."""
    step = [TINY * n for n in plane[:3]]
    behind = tuple(a - b for a, b in zip(measures(p), step))
    before = tuple(a + b for a, b in zip(measures(p), step))
    return is_within(heap, behind) and not is_within(heap, before)


def on_wall_by_hand(body, p):
    """True where a point lies on a side or within the land of a wall."""
    return any(dotted(plane, p) == 0 and place_by_hand(plane, rings, p) >= 0 for plane, rings in body)


def body_place_by_hand(body, p):
    """0 for a point on a wall, else 1 or -1 by counting what a half line meets."""
    if on_wall_by_hand(body, p):
        return 0
    return 1 if is_within([ring for plane, rings in body for ring in rings], measures(p)) else -1


def volume_by_hand(body):
    """The volume of a body, by tetrahedra over its rings."""
    total = Fraction(0)
    for plane, rings in body:
        for ring in rings:
            spots = [measures(p) for p in ring]
            for q, r in zip(spots[1:], spots[2:]):
                total += dotted(spots[0], crossed(q, r))
    return total / 6


def volume_of(*bodies):
    """What the volumes of bodies come to, as a pair of whole numbers."""
    total = sum(volume_by_hand(body) for body in bodies)
    return total.numerator, total.denominator


def lies_between(p, q, spot):
    """True where three measures lie between two others, and are none of them."""
    to, fro = minus(p, spot), minus(q, spot)
    return crossed(to, fro) == (0, 0, 0) and dotted(to, fro) < 0


def bits_by_hand(body):
    """The sides of a body cut at its corners, by asking of each corner whether it lies amid each side."""
    rings = [ring for plane, rings in body for ring in rings]
    corners = {p: measures(p) for ring in rings for p in ring}
    found = set()
    for p, q in {tuple(sorted(side)) for ring in rings for side in ring_sides(ring)}:
        start, goal = corners[p], corners[q]
        amid = [c for c in corners if lies_between(start, goal, corners[c])]
        way = minus(goal, start)
        spots = [p] + sorted(amid, key=lambda c: dotted(minus(corners[c], start), way)) + [q]
        found |= {tuple(sorted(pair)) for pair in zip(spots, spots[1:])}
    return tuple(sorted(found))


def ring_turn(plane, ring):
    """1 for a ring that goes round to the left as seen from the plane's front, -1 for the other way, by its area."""
    upright = [0, 0, 0]
    for p, q in ring_sides([measures(p) for p in ring]):
        upright = [a + b for a, b in zip(upright, crossed(p, q))]
    return signum(dotted(upright, plane))


def counts_by_hand(body):
    rings = [(plane, ring) for plane, rings in body for ring in rings]
    turns = [ring_turn(plane, ring) for plane, ring in rings]
    return len({p for plane, ring in rings for p in ring}), len(bits_by_hand(body)), turns.count(1), turns.count(-1)


# Solids, told by three numbers for each corner in a frame of three ways.

class Frame:
    """A place to put solids in: three numbers tell how far to go along three ways."""

    def __init__(self, start, *ways):
        self.start, self.ways = start, ways
        self.size = abs(dotted(ways[0], crossed(ways[1], ways[2])))
        self.is_mirrored = dotted(ways[0], crossed(ways[1], ways[2])) < 0

    def spot(self, *steps):
        return tuple(
            a + sum(Fraction(n) * way[k] for n, way in zip(steps, self.ways)) for k, a in enumerate(self.start))

    def at(self, *steps):
        return point_at(*self.spot(*steps))

    def ring(self, corners):
        return tuple(self.at(*corner) for corner in corners)

    def heap(self, rings):
        return [self.ring(ring) for ring in rings]

    def plane(self, ring):
        """The plane of a ring whose points go round to the left as seen from its front."""
        spots = [self.spot(*corner) for corner in ring]
        upright = [0, 0, 0]
        for p, q in ring_sides(spots):
            upright = [a + b for a, b in zip(upright, crossed(p, q))]
        if self.is_mirrored:
            upright = [-n for n in upright]
        return whole(upright + [-dotted(upright, spots[0])])

    def wall(self, rings):
        """The wall of rings with it on the left as seen from without; the first one goes round its outside."""
        told = [self.ring(ring[::-1] if self.is_mirrored else ring) for ring in rings]
        return self.plane(rings[0]), tuple(sorted(least_start(ring) for ring in told))

    def body(self, walls):
        return tuple(sorted(self.wall(rings) for rings in walls))


PLAIN = Frame((0, 0, 0), (1, 0, 0), (0, 1, 0), (0, 0, 1))
FRAMES = (
    PLAIN,
    Frame((Fraction(1, 2), -3, Fraction(2, 7)), (0, 0, 1), (0, 2, 0), (Fraction(-1, 3), 0, 0)),
    Frame((1, Fraction(-1, 3), 0), (1, 2, 0), (-1, 1, Fraction(1, 2)), (0, 1, 3)),
    Frame((0, 0, 5), (1, 2, 3), (-1, 0, 1), (2, -1, -1)),
)
GREAT_FRAMES = (
    Frame((GREAT, 0, 1), (GREAT, 1, 0), (0, GREAT + 2, 1), (-1, 0, Fraction(1, GREAT))),
    Frame((0, Fraction(1, HUGE), 0), (HUGE, 0, 1), (0, 1, HUGE), (1, 0, 0)),
)


def ones(rings):
    """Walls of one ring each."""
    return [[ring] for ring in rings]


def box_rings(low, high):
    """The six sides of a box, each with its points on the left as seen from without."""
    rings = []
    for axis in range(3):
        for bound, turns in ((low, -1), (high, 1)):
            ring = []
            for i, j in ((0, 0), (1, 0), (1, 1), (0, 1))[::turns]:
                corner = [0, 0, 0]
                corner[axis] = bound[axis]
                corner[(axis + 1) % 3] = (low, high)[i][(axis + 1) % 3]
                corner[(axis + 2) % 3] = (low, high)[j][(axis + 2) % 3]
                ring.append(tuple(corner))
            rings.append(tuple(ring))
    return rings


def cube_rings(x, y, z, size=1):
    return box_rings((x, y, z), (x + size, y + size, z + size))


def tetra_rings(p, q, r, s):
    """The four sides of a tetrahedron, each with its points on the left as seen from without."""
    if dotted(minus(q, p), crossed(minus(r, p), minus(s, p))) < 0:
        r, s = s, r
    return [(p, r, q), (p, q, s), (q, r, s), (r, p, s)]


def turned_inside(rings):
    return [ring[::-1] for ring in rings]


BOX = box_rings((0, 0, 0), (1, 2, 3))
CUBE = cube_rings(0, 0, 0)
TETRA = tetra_rings((0, 0, 0), (3, 0, 0), (0, 2, 0), (0, 0, 1))
WEDGE = [
    ((0, 0, 0), (0, 2, 0), (2, 0, 0)), ((0, 0, 1), (2, 0, 1), (0, 2, 1)), ((0, 0, 0), (2, 0, 0), (2, 0, 1), (0, 0, 1)),
    ((2, 0, 0), (0, 2, 0), (0, 2, 1), (2, 0, 1)), ((0, 2, 0), (0, 0, 0), (0, 0, 1), (0, 2, 1)),
]


def rolled(ring):
    """A ring with the three axes in the place of one another, which leaves left and right as they are."""
    return tuple((z, x, y) for x, y, z in ring)


def rolled_all(walls):
    """Walls, and the same twice rolled on."""
    once = [[rolled(ring) for ring in wall] for wall in walls]
    return walls + once + [[rolled(ring) for ring in wall] for wall in once]


def on_x(x, *rings):
    """A wall of rings of pairs (y, z), which looks to greater x; to lesser x where they go the other way round."""
    return [tuple((x, y, z) for y, z in ring) for ring in rings]


# Two cubes of size 2 that overlap, by odd and even: the walls upright on the first axis, and the others of their kind.
BENT = ((0, 0), (2, 0), (2, 1), (1, 1), (1, 2), (0, 2))
OTHER_BENT = ((2, 1), (3, 1), (3, 3), (1, 3), (1, 2), (2, 2))
SMALL = ((1, 1), (2, 1), (2, 2), (1, 2))
OVERLAP = rolled_all([
    on_x(0, ((0, 0), (0, 2), (2, 2), (2, 0))), on_x(1, SMALL), on_x(1, OTHER_BENT[::-1]),
    on_x(2, BENT), on_x(2, SMALL[::-1]), on_x(3, ((1, 1), (3, 1), (3, 3), (1, 3))),
])
# Heaps and the walls of their bodies.
HEAPS = {
    "box": (BOX, [[ring] for ring in BOX]),
    "tetrahedron": (TETRA, [[ring] for ring in TETRA]),
    "wedge": (WEDGE, [[ring] for ring in WEDGE]),
    "nothing": ([], []),
    "apart": (CUBE + cube_rings(5, 0, 7), [
        [ring] for ring in cube_rings(0, 0, 0)[:2] + CUBE[4:] + cube_rings(5, 0, 7)[:2] + cube_rings(5, 0, 7)[4:]
    ] + [[CUBE[k], cube_rings(5, 0, 7)[k]] for k in (2, 3)]),
    "along a wall": (CUBE + cube_rings(1, 0, 0), [[ring] for ring in box_rings((0, 0, 0), (2, 1, 1))]),
    "along a part of a wall": (cube_rings(0, 0, 0, 3) + cube_rings(1, 1, 3), [
        [ring] for ring in cube_rings(0, 0, 0, 3)[:5] + cube_rings(1, 1, 3)[:4] + cube_rings(1, 1, 3)[5:]
    ] + [[cube_rings(0, 0, 0, 3)[5], cube_rings(1, 1, 3)[4]]]),
    "along an edge": (CUBE + cube_rings(1, 1, 0), [
        [ring] for ring in CUBE[:4] + cube_rings(1, 1, 0)[:4]
    ] + [[CUBE[k], cube_rings(1, 1, 0)[k]] for k in (4, 5)]),
    "at a corner": (CUBE + cube_rings(1, 1, 1), [[ring] for ring in CUBE + cube_rings(1, 1, 1)]),
    "one within the other": (
        cube_rings(0, 0, 0, 3) + cube_rings(1, 1, 1),
        [[ring] for ring in cube_rings(0, 0, 0, 3) + turned_inside(cube_rings(1, 1, 1))]),
    "one in the corner of the other": (cube_rings(0, 0, 0, 3) + CUBE, rolled_all([
        on_x(0, ((0, 1), (0, 3), (3, 3), (3, 0), (1, 0), (1, 1))),
        on_x(1, ((0, 0), (0, 1), (1, 1), (1, 0))), on_x(3, ((0, 0), (3, 0), (3, 3), (0, 3))),
    ])),
    "overlap": (cube_rings(0, 0, 0, 2) + cube_rings(1, 1, 1, 2), OVERLAP),
    "twice": (BOX + TETRA + BOX + TETRA, []),
    "no land": ([(), ((1, 2, 3),), ((1, 2, 3), (1, 2, 3)), ((0, 0, 0), (1, 5, 2)), ((0, 0, 0), (1, 1, 1), (3, 3, 3))], []),
    "a ring twice": ([((0, 0, 0), (1, 0, 0), (0, 1, 1))] * 2, []),
    "a ring and its parts": ([((0, 0, 0), (2, 0, 0), (0, 2, 0)), ((0, 0, 0), (1, 0, 0), (0, 2, 0)),
                              ((1, 0, 0), (2, 0, 0), (0, 2, 0))], []),
}


# A plate with a three-cornered hole through it that comes to the plate's side y = 0 in one edge alone.
NICKED_TOP = ((0, 0), (2, 0), (1, 1), (3, 1), (2, 0), (4, 0), (4, 4), (0, 4))
NICKED = ones([
    tuple((x, y, 1) for x, y in NICKED_TOP), tuple((x, y, 0) for x, y in NICKED_TOP[::-1]),
    ((2, 0, 0), (1, 1, 0), (1, 1, 1), (2, 0, 1)), ((1, 1, 0), (3, 1, 0), (3, 1, 1), (1, 1, 1)),
    ((3, 1, 0), (2, 0, 0), (2, 0, 1), (3, 1, 1)),
] + box_rings((0, 0, 0), (4, 4, 1))[:4])
# A plate with two holes through it that touch in one edge.
TWO_HOLES = ((1, 1), (1, 2), (2, 2), (2, 3), (3, 3), (3, 2), (2, 2), (2, 1))
HOLED = [
    [((0, 0, 1), (4, 0, 1), (4, 4, 1), (0, 4, 1)), tuple((x, y, 1) for x, y in TWO_HOLES)],
    [((0, 0, 0), (0, 4, 0), (4, 4, 0), (4, 0, 0)), tuple((x, y, 0) for x, y in TWO_HOLES[::-1])],
] + ones(
    box_rings((0, 0, 0), (4, 4, 1))[:4]
    + turned_inside(box_rings((1, 1, 0), (2, 2, 1))[:4]) + turned_inside(box_rings((2, 2, 0), (3, 3, 1))[:4]))


def in_box(low, high):
    return lambda spot: all(a < b < c for a, b, c in zip(low, spot, high))


def some_spots(chance, many, top=4):
    """Triples on no wall of the solids above."""
    return [
        tuple(Fraction(chance.randint(-3, 6 * top), 5) + Fraction(1, 1000 + chance.randint(1, 90)) for k in range(3))
        for n in range(many)
    ]


def some_solid(chance):
    def corner():
        return tuple(Fraction(chance.randint(0, 6), chance.choice((1, 1, 2))) for k in range(3))

    if chance.random() < 0.5:
        low, high = corner(), corner()
        while any(a == b for a, b in zip(low, high)):
            high = corner()
        return box_rings(low, high)
    return tetra_rings(corner(), corner(), corner(), corner())


def spot_in(chance, plane, heap):
    """A point of a plane, about where the heap's points are, and on none of its other planes."""
    flat, lifted = flattened(plane)
    pairs = [flat(p) for ring in heap for p in ring]
    (s, t), (u, v) = (min(p[k] for p in pairs) for k in range(2)), (max(p[k] for p in pairs) for k in range(2))
    share, other = (Fraction(chance.randint(0, 10 ** 6) * 2 + 1, 2 * 10 ** 6 + 1) for k in range(2))
    return lifted((s + share * (u - s), t + other * (v - t)))


def turned_over(plane):
    return tuple(-n for n in plane)


def some_plane(chance, frame):
    """The plane of three corners in a frame that no line holds."""
    while True:
        corners = [tuple(chance.randint(0, 6) for k in range(3)) for n in range(3)]
        spots = [frame.spot(*corner) for corner in corners]
        if any(crossed(minus(spots[1], spots[0]), minus(spots[2], spots[0]))):
            return frame.plane(corners)


# Plain bodies and others, as heaps of rings of triples.

def crossing_wedges():
    """Six wedges round one line, three of them filled, so that three walls go through one another there."""
    spokes = ((2, 0), (1, 2), (-1, 2), (-2, 0), (-1, -2), (1, -2))
    rings = []
    for k in (0, 2, 4):
        (x, y), (u, v) = spokes[k], spokes[(k + 1) % 6]
        for z in (0, 1):
            rings.append(((0, 0, z), (x, y, z), (u, v, z)))
        rings.append(((0, 0, 0), (x, y, 0), (x, y, 1), (0, 0, 1)))
        rings.append(((0, 0, 0), (u, v, 0), (u, v, 1), (0, 0, 1)))
        rings.append(((x, y, 0), (u, v, 0), (u, v, 1), (x, y, 1)))
    return rings


BLOCK = cube_rings(0, 0, 0, 4)
PINCHED = {
    "at a corner": CUBE + cube_rings(1, 1, 1),
    "at a corner, from within": BLOCK + tetra_rings((0, 0, 0), (2, 1, 1), (1, 2, 1), (1, 1, 2)),
    "along an edge": CUBE + cube_rings(1, 1, 0),
    "along half an edge": cube_rings(0, 0, 0, 2) + box_rings((2, 2, 1), (3, 3, 3)),
    "along a part of an edge": BLOCK + box_rings((4, 4, 1), (5, 5, 3)),
    "along a part of an edge, from within": BLOCK + tetra_rings((0, 0, 1), (0, 0, 3), (2, 1, 2), (1, 2, 2)),
    "a corner amid an edge": BLOCK + tetra_rings((4, 4, 1), (6, 5, 0), (5, 6, 0), (6, 6, 2)),
    "a corner amid an edge, from within": BLOCK + tetra_rings((4, 4, 1), (2, 3, 1), (3, 2, 1), (2, 2, 3)),
    "a corner amid a wall": BLOCK + tetra_rings((4, 1, 1), (6, 1, 0), (6, 2, 0), (6, 2, 2)),
    "a corner amid a wall, from within": BLOCK + tetra_rings((4, 1, 1), (2, 1, 1), (2, 2, 1), (2, 2, 2)),
    "an edge amid a wall": BLOCK + tetra_rings((1, 2, 4), (3, 2, 4), (2, 1, 6), (2, 3, 6)),
    "an edge amid a wall, from within": BLOCK + tetra_rings((1, 2, 4), (3, 2, 4), (2, 1, 2), (2, 3, 2)),
    "an edge across a wall": BLOCK + tetra_rings((-1, 2, 4), (5, 2, 4), (2, 1, 6), (2, 3, 6)),
    "an edge across a wall from side to side": BLOCK + tetra_rings((0, 2, 4), (4, 1, 4), (2, 1, 6), (2, 3, 6)),
    "an edge onto a wall": BLOCK + tetra_rings((-1, 2, 4), (2, 2, 4), (2, 1, 6), (2, 3, 6)),
    "an edge on a wall, from side to side within": [ring for wall in NICKED for ring in wall],
    "two edges cross": BLOCK + tetra_rings((3, 2, 5), (5, 2, 3), (6, 1, 6), (6, 3, 6)),
    "two edges cross slantwise": BLOCK + tetra_rings((3, 1, 5), (5, 3, 3), (6, 1, 6), (6, 3, 6)),
    "walls through one another": crossing_wedges(),
    "two cubes by odd and even": cube_rings(0, 0, 0, 2) + cube_rings(1, 1, 1, 2),
    "two tetrahedra by odd and even": TETRA + [tuple((2 - x, 1 - y, z) for x, y, z in ring) for ring in TETRA],
    "two holes that touch": [ring for wall in HOLED for ring in wall],
    "a corner on a wall's edge with a wall in common": BLOCK + cube_rings(4, 0, 0) + cube_rings(4, 1, 1),
}


def tube(low, high, *bars):
    """A box with bars, pairs (low, high), taken out of it from top to bottom, as a heap."""
    rings = box_rings(low, high)
    for (x, y), (u, v) in bars:
        rings = rings + box_rings((x, y, low[2]), (u, v, high[2]))
    return rings


WIDE = cube_rings(-20, -20, -20, 60)
# Heaps of plain bodies; how many shells, parts and handles each of these has.
SOUND = {
    "nothing": ([], 0, 0, 0),
    "box": (BOX, 1, 1, 0),
    "tetrahedron": (TETRA, 1, 1, 0),
    "wedge": (WEDGE, 1, 1, 0),
    "apart": (HEAPS["apart"][0], 2, 2, 0),
    "along a wall": (HEAPS["along a wall"][0], 1, 1, 0),
    "along a part of a wall": (HEAPS["along a part of a wall"][0], 1, 1, 0),
    "one in the corner of the other": (HEAPS["one in the corner of the other"][0], 1, 1, 0),
    "hollow": (HEAPS["one within the other"][0], 2, 1, 0),
    "two hollows": (cube_rings(0, 0, 0, 5) + cube_rings(1, 1, 1) + cube_rings(3, 3, 3), 3, 1, 0),
    "a body within a hollow": (cube_rings(0, 0, 0, 5) + cube_rings(1, 1, 1, 3) + cube_rings(2, 2, 2), 3, 2, 0),
    "hollows within hollows": ([ring for k in range(4) for ring in cube_rings(k, k, k, 9 - 2 * k)], 4, 2, 0),
    "tube": (tube((0, 0, 0), (3, 3, 2), ((1, 1), (2, 2))), 1, 1, 1),
    "three bars": (tube((0, 0, 0), (7, 3, 2), ((1, 1), (2, 2)), ((3, 1), (4, 2)), ((5, 1), (6, 2))), 1, 1, 3),
    "a hollow with a handle": (cube_rings(-1, -1, -1, 9) + tube((0, 0, 0), (3, 3, 2), ((1, 1), (2, 2))), 2, 1, 1),
    "a tube in a hollow": (cube_rings(-2, -2, -2, 9) + cube_rings(-1, -1, -1, 7)
                           + tube((0, 0, 0), (3, 3, 2), ((1, 1), (2, 2))), 3, 2, 1),
    "a tube through a box": (tube((0, 0, 0), (3, 3, 2), ((1, 1), (2, 2))) + box_rings((5, 0, 0), (6, 1, 1)), 2, 2, 1),
    "a plug in a tube": (tube((0, 0, 0), (9, 9, 2), ((1, 1), (8, 8))) + tube((2, 2, 0), (7, 7, 2), ((3, 3), (4, 4))), 2, 2, 2),
    "corners amid sides": (BLOCK + tetra_rings((1, 0, 4), (3, 0, 4), (2, 2, 4), (2, 1, 6)), 1, 1, 0),
    "a corner amid a side, with a wall in common": (BLOCK + tetra_rings((2, 0, 4), (3, 1, 4), (1, 2, 4), (2, 1, 6)), 1, 1, 0),
    "two walls of a box in common": (BLOCK + box_rings((1, 0, 4), (3, 2, 6)) + box_rings((4, 0, 1), (5, 4, 3)), 1, 1, 0),
    "near one another": (BLOCK + tetra_rings((4 + Fraction(1, 10 ** 9), 1, 1), (6, 1, 0), (6, 2, 0), (6, 2, 2)), 2, 2, 0),
    "a bridge": (box_rings((0, 0, 0), (7, 2, 1)) + box_rings((0, 0, 1), (1, 2, 3)) + box_rings((6, 0, 1), (7, 2, 3))
                 + box_rings((0, 0, 3), (7, 2, 4)), 1, 1, 1),
}


# Bodies of cubes, looked at cube by cube.

def beside(cell):
    for k in range(3):
        for step in (-1, 1):
            yield cell[:k] + (cell[k] + step,) + cell[k + 1:]


def cell_groups(cells):
    """Sets of cells that hang together by their walls."""
    left, groups = set(cells), []
    while left:
        waiting = [min(left)]
        left.remove(waiting[0])
        group = set(waiting)
        while waiting:
            for cell in beside(waiting.pop()):
                if cell in left:
                    left.remove(cell)
                    group.add(cell)
                    waiting.append(cell)
        groups.append(group)
    return groups


def is_plain_by_cells(cells):
    """True where, round each corner and each edge of the cells, those within and those without hang together."""
    for x, y, z in {(x + i, y + j, z + k) for x, y, z in cells for i in (0, 1) for j in (0, 1) for k in (0, 1)}:
        rounds = [product((x - 1, x), (y - 1, y), (z - 1, z))]
        rounds += [product((x - 1, x), (y - 1, y), (z,)), product((x - 1, x), (y,), (z - 1, z))]
        rounds += [product((x,), (y - 1, y), (z - 1, z))]
        for near in map(set, rounds):
            if len(cell_groups(near & cells)) > 1 or len(cell_groups(near - cells)) > 1:
                return False
    return True


def cells_heap(frame, cells):
    """The squares between cells and what is none of them, as a heap."""
    return frame.heap([
        ring for cell in sorted(cells) for ring, other in zip(cube_rings(*cell), beside(cell)) if other not in cells])


def shells_by_cells(cells, size):
    """Triples of 1 or -1, the cells of a filled body, and the part (None for hollows) of each shell, in no order."""
    space = set(product(range(-1, size + 1), repeat=3))
    told = []
    for part in cell_groups(cells):
        for gap in cell_groups(space - part):
            outer = (-1, -1, -1) in gap
            told.append((1, space - gap, part) if outer else (-1, gap, None))
    return told


def handles_by_cells(cells):
    """How many shells less half of what corners, edges and squares of the border come to."""
    corners, edges, squares = set(), set(), 0
    for cell in cells:
        for other in beside(cell):
            if other not in cells:
                axis = next(k for k in range(3) if other[k] != cell[k])
                base = tuple(max(a, b) for a, b in zip(cell, other))
                ring = []
                for i, j in ((0, 0), (1, 0), (1, 1), (0, 1)):
                    spot = list(base)
                    spot[(axis + 1) % 3] += i
                    spot[(axis + 2) % 3] += j
                    ring.append(tuple(spot))
                corners |= set(ring)
                edges |= {frozenset(side) for side in zip(ring, ring[1:] + ring[:1])}
                squares += 1
    return len(shells_by_cells(cells, 12)) - Fraction(len(corners) - len(edges) + squares, 2)


def some_cells(chance, size):
    """Cells of nested cubes with some blocks put in or taken out."""
    cells = set(product(range(size), repeat=3))
    for k in range(1, (size + 1) // 2):
        if chance.random() < 0.7:
            cells ^= set(product(range(k, size - k), repeat=3))
    for n in range(chance.randint(0, 5)):
        bounds = [sorted(chance.randint(0, size) for end in range(2)) for k in range(3)]
        block = set(product(*(range(low, max(high, low + 1)) for low, high in bounds)))
        cells = cells | block if chance.random() < 0.5 else cells - block
    return cells
