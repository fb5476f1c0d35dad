"""Sets of points on a line, known by their ends.

Such a set is told by a list of its ends: an even number of unlike points, each ahead of
the next one. The set begins at the first, stops at the second, and so by turns.
"""


def is_ahead(line, p, q):
    """True where p comes earlier than q on the line's way."""
    axis = 0
    while line[axis] == 0:
        axis += 1
    # This number of the line is above 0, so the measure grows along the way.
    return p[axis] * q[3] < q[axis] * p[3]


def next_end(line, one, at, other, to):
    """The earlier one of the ends at these two places, of which one may be past its list."""
    if at == len(one):
        return other[to]
    if to == len(other) or is_ahead(line, one[at], other[to]):
        return one[at]
    return other[to]


def ends_kept(line, one, other, keeps):
    """The ends of the set that keeps(in_one, in_other) makes of two sets; of neither it keeps nothing."""
    kept = []
    at = to = 0
    while at < len(one) or to < len(other):
        here = next_end(line, one, at, other, to)
        if at < len(one) and one[at] == here:
            at += 1
        if to < len(other) and other[to] == here:
            to += 1
        # Behind an odd number of ends one is within the set.
        if keeps(at % 2 == 1, to % 2 == 1) != (len(kept) % 2 == 1):
            kept.append(here)
    return kept


def ends_either(line, one, other):
    """The ends of what only one of two sets has: those that stand in just one of both lists."""
    return ends_kept(line, one, other, lambda in_one, in_other: in_one != in_other)


def ends_of_pair(line, p, q):
    """The ends of what lies between two points, handed in in either order."""
    if p == q:
        return []
    return [p, q] if is_ahead(line, p, q) else [q, p]


def ends_of_pairs(line, pairs):
    """The ends of what lies between the two points of an odd number of pairs."""
    known = [ends_of_pair(line, p, q) for p, q in pairs]
    # Two by two, so that long lists are gone through a few times only.
    while len(known) > 1:
        left = known[len(known) // 2 * 2:]
        known = [ends_either(line, one, other) for one, other in zip(known[0::2], known[1::2])]
        known.extend(left)
    return known[0] if known else []
