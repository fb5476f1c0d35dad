"""Shells of plain bodies, hollows, the parts that hang together, and handles."""

from solidyard.corners import corners, counts, is_outer, rings_cut
from solidyard.errors import Pinched
from solidyard.lands import land_over, land_place, spread
from solidyard.lowest import ranked
from solidyard.plain import is_plain
from solidyard.volumes import place, volume


def refuse_pinched(body):
    """Refuses a body that is not plain."""
    if not is_plain(body):
        raise Pinched("the body is not plain")


def least_worth(worths):
    """The key of the fraction that is worth least, in a dict; None where there is none."""
    best = None
    for key in worths:
        if best is None or ranked(worths[key], worths[best]) < 0:
            best = key
    return best


def ring_round(plane, inner, outer):
    """Of the outer rings of a wall the one straight round an inner ring."""
    # An inner ring touches the outer ring of its own part nowhere, so each of its points tells.
    around = [ring for ring in outer if land_place((plane, (ring,)), inner[0]) == 1]
    return least_worth({ring: spread((plane, (ring,))) for ring in around})


def hole_links(wall):
    """Pairs of rings of a wall, told with its plane: each inner ring and the ring of the land that it bounds."""
    plane, rings = wall
    outer = [ring for ring in rings if is_outer(plane, ring)]
    inner = [ring for ring in rings if ring not in outer]
    return [((plane, ring), (plane, ring_round(plane, ring, outer))) for ring in inner]


def corner_links(body):
    """Pairs of rings of a body, told with their planes, such that all rings at a corner hang together by them."""
    all_corners = corners(body)
    first = {}
    links = []
    for wall in body:
        for ring, cut in zip(wall[1], rings_cut(wall, all_corners)):
            told = (wall[0], ring)
            links.extend([(told, first.setdefault(p, told)) for p in cut])
    return links


def hung_together(links):
    """What pairs link together, in lists."""
    beside = {}
    for one, other in links:
        beside.setdefault(one, []).append(other)
        beside.setdefault(other, []).append(one)
    seen = set()
    groups = []
    for start in beside:
        group = []
        waiting = [start]
        while waiting:
            here = waiting.pop()
            if here not in seen:
                seen.add(here)
                group.append(here)
                waiting.extend(beside[here])
        if group:
            groups.append(group)
    return groups


def walls_of(group):
    """The list of walls that has these rings, told with their planes."""
    rings = {}
    for plane, ring in group:
        rings.setdefault(plane, []).append(ring)
    return tuple(sorted([(plane, tuple(sorted(rings[plane]))) for plane in rings]))


def shell_told(walls):
    """The shell of walls as they look from within the body."""
    # Walls look out of the body, so where they look into their shell this counts below 0.
    if volume(walls)[0] > 0:
        return (1, walls)
    return (-1, tuple(sorted([land_over(wall) for wall in walls])))


def shell_groups(body):
    """Pairs of a shell and its rings, told with their planes, sorted by the shells; refuses what is not plain."""
    refuse_pinched(body)
    links = corner_links(body) + [link for wall in body for link in hole_links(wall)]
    return sorted([(shell_told(walls_of(group)), group) for group in hung_together(links)])


def shells(body):
    """The shells of a plain body, each as 1 or -1 and its filled body."""
    return tuple([shell for shell, group in shell_groups(body)])


def straight_round(told, at):
    """The place, in a list of shells, of the one straight round that at a place, or None."""
    corner = corners(told[at][1])[0]
    around = [k for k in range(len(told)) if k != at and place(told[k][1], corner) == 1]
    return least_worth({k: volume(told[k][1]) for k in around})


def nest_told(told):
    """The place of the shell straight round each one of a list of shells, or None."""
    return tuple([straight_round(told, at) for at in range(len(told))])


def nest(body):
    """For each shell of a plain body the place of the one straight round it, or None."""
    return nest_told(shells(body))


def pieces(body):
    """The parts of a plain body that hang together, in the order of their outer shells."""
    groups = shell_groups(body)
    straight = nest_told([shell for shell, group in groups])
    found = []
    for at, (shell, group) in enumerate(groups):
        if shell[0] == 1:
            hollows = [told for k, (hollow, rings) in enumerate(groups) if straight[k] == at for told in rings]
            found.append(walls_of(group + hollows))
    return tuple(found)


def handles(body):
    """How many handles a plain body has."""
    many_shells = len(shells(body))
    many_corners, many_bits, outer, inner = counts(body)
    return many_shells - (many_corners - many_bits + outer - inner) // 2
