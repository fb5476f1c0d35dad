"""Sets of points on a line, known by their ends.

Such a set is told by a list of its ends: an even number of unlike points, each ahead of
the next one. The set begins at the first, stops at the second, and so by turns.
"""

from solidyard.points import axis_of


def is_ahead(line, p, q):
    """True where p comes earlier than q on the line's way."""
    # The first number of a line that is not 0 is above 0, so this measure grows along the way.
    axis = axis_of(line)
    return p[axis] * q[3] < q[axis] * p[3]


def in_order(line, points):
    """Unlike points of a line in a list, each ahead of the next one."""
    axis = axis_of(line)
    most = max([p[3] for p in points], default=1)
    # Two unlike measures over bottoms up to most lie 1 / scale apart at least,
    # so scale times of them are not rounded down to one whole number.
    scale = most * most
    return sorted(points, key=lambda p: p[axis] * scale // p[3])


def odd_ends(line, points):
    """The ends of a set whose ends are the points that come an odd number of times."""
    odd = {}
    for p in points:
        odd[p] = not odd.get(p, False)
    return in_order(line, [p for p in odd if odd[p]])


def next_end(line, one, at, other, to):
    """The earlier one of the ends at these two places, of which one may be past its list."""
    if at == len(one):
        return other[to]
    if to == len(other) or is_ahead(line, one[at], other[to]):
        return one[at]
    return other[to]


def ends_kept(line, one, other, keeps):
    """The ends of the set that keeps(in_one, in_other) makes of two sets; of neither it keeps nothing."""
    kept = []
    at = to = 0
    while at < len(one) or to < len(other):
        here = next_end(line, one, at, other, to)
        if at < len(one) and one[at] == here:
            at += 1
        if to < len(other) and other[to] == here:
            to += 1
        # Behind an odd number of ends one is within the set.
        if keeps(at % 2 == 1, to % 2 == 1) != (len(kept) % 2 == 1):
            kept.append(here)
    return kept
