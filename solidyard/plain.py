"""Plain bodies: those whose border nowhere touches itself.

The border touches itself at a corner, or along a bit or in a point of a bit that lies in
another wall. Where a bit goes through a wall in a point that is no corner, it is not plain;
so of the spots that there are only corners need be looked at.
"""

from solidyard.borders import meeting
from solidyard.corners import corners, rings_cut
from solidyard.ends import in_order
from solidyard.lands import land_place
from solidyard.lines import line_common
from solidyard.lowest import lowest_terms
from solidyard.planes import height
from solidyard.points import amid, way_from
from solidyard.rings import sides_of


def direction(p, q):
    """The direction from p to q, the same for all points q that lie the same way."""
    return lowest_terms(way_from(p, q))


def passes_at(rings):
    """The passes of rings in a dict of lists by their points, each a pair of its way out and its way back."""
    passes = {}
    for ring in rings:
        for back, here, out in zip(ring[-1:] + ring[:-1], ring, ring[1:] + ring[:1]):
            passes.setdefault(here, []).append((direction(here, out), direction(here, back)))
    return passes


def is_one_round(passes):
    """True where who goes from each pass to the one whose way out is its way back comes round through all."""
    back = {way_out: way_back for way_out, way_back in passes}
    if len(back) < len(passes):
        return False
    start = passes[0][0]
    here = start
    for count in range(len(passes)):
        # Coming back too early, or to no way out, is no round through all.
        if here not in back or (here == start and count > 0):
            return False
        here = back[here]
    return here == start


def has_corner_within(wall, cut, all_corners):
    """True where a corner lies within the land of a wall, whose rings are handed in cut at corners, too."""
    on_rings = {p: True for ring in cut for p in ring}
    held = [p for p in all_corners if height(wall[0], p) == 0 and p not in on_rings]
    return any(land_place(wall, p) == 1 for p in held)


def is_pierced(wall, all_corners, all_bits):
    """True where a bit comes from the front of a wall through it, or through a side of it, to its back."""
    over_wall = {p: height(wall[0], p) for p in all_corners}
    for p, q in all_bits:
        high, low = over_wall[p], over_wall[q]
        if high * low < 0 and land_place(wall, meeting(p, high, q, low)) >= 0:
            return True
    return False


def shared_corners(cuts):
    """The corners that two walls share, in a dict of lists by the places of the walls, by the cut rings of each."""
    at = {}
    for k, cut in enumerate(cuts):
        for p in sorted({p for ring in cut for p in ring}):
            at.setdefault(p, []).append(k)
    shared = {}
    for p in at:
        for one in at[p]:
            for other in at[p]:
                if one < other:
                    shared.setdefault((one, other), []).append(p)
    return shared


def lies_in(one, other, spots):
    """True where one of two walls goes through the land of the other one between two of the spots on both."""
    line = line_common(one[0], other[0])
    if line is None:
        return False
    ordered = in_order(line, spots)
    for p, q in zip(ordered, ordered[1:]):
        middle = amid(p, q)
        places = [land_place(one, middle), land_place(other, middle)]
        if max(places) == 1 and min(places) >= 0:
            return True
    return False


def is_plain(body):
    """True where the border of a body nowhere touches itself."""
    all_corners = corners(body)
    cuts = [rings_cut(wall, all_corners) for wall in body]
    passes = passes_at([ring for cut in cuts for ring in cut])
    if not all(is_one_round(passes[p]) for p in passes):
        return False
    if any(has_corner_within(wall, cut, all_corners) for wall, cut in zip(body, cuts)):
        return False
    shared = shared_corners(cuts)
    if any(lies_in(body[one], body[other], shared[one, other]) for one, other in shared):
        return False
    all_bits = sorted({(min(p, q), max(p, q)) for cut in cuts for p, q in sides_of(cut)})
    return not any(is_pierced(wall, all_corners, all_bits) for wall in body)
