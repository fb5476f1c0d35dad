"""Hulls: the borders of bodies in planes, by which bodies are known.

A hull is a dict of borders by planes, of a plane and the same turned over the greater one;
a plane in which it has no points is left out. It is that of the body of the points from which
a half line meets the lands of these borders an odd number of times.
"""

from solidyard.borders import border_common, border_either, border_of, border_of_ends, border_stretches, ends_before
from solidyard.lands import land_told
from solidyard.lines import line_common
from solidyard.planes import over
from solidyard.rings import sides_of


def hull_kept(borders):
    """The hull of a dict of borders by planes, of which some may have no points."""
    return {plane: borders[plane] for plane in borders if borders[plane] != {}}


def hull_of(lands):
    """The hull of pairs of a plane and a list of stretches in it; what lies on an even number of them is no border."""
    sides = {}
    for plane, stretches in lands:
        sides.setdefault(max(plane, over(plane)), []).extend(stretches)
    return hull_kept({plane: border_of(sides[plane]) for plane in sides})


def body_hull(body):
    """The hull of a body."""
    return hull_of([(plane, sides_of(rings)) for plane, rings in body])


def body_sides(body):
    """The sides of a body's walls, in a dict of lists by their planes."""
    return {plane: sides_of(rings) for plane, rings in body}


def hull_sides(hull):
    """The stretches of a hull, in a dict of lists by its planes."""
    return {plane: border_stretches(hull[plane]) for plane in hull}


def border_before(sides, plane):
    """The border, in a plane, of what lies right in front of it of the body that stretches in planes shut in."""
    ends = {}
    for wall in sides:
        found = ends_before(sides[wall], plane)
        # Planes that share no line, or all points, leave no ends.
        if found:
            ends.setdefault(line_common(wall, plane), []).extend(found)
    return border_of_ends(ends)


def hull_either(one, other):
    """The hull of what lies within one of two bodies but not within the other."""
    planes = {**one, **other}
    return hull_kept({plane: border_either(one.get(plane, {}), other.get(plane, {})) for plane in planes})


def common_border(plane, border, before, other_border, other_before):
    """The border of what two bodies share, by the border of each in a plane and by what of each lies before it."""
    # As with rows on a line: behind the plane each body is what it is in front, but turned over on its border.
    both = border_common(plane, border, other_border)
    one_alone = border_common(plane, border, other_before)
    other_alone = border_common(plane, before, other_border)
    return border_either(both, border_either(one_alone, other_alone))


def hull_common(one, other):
    """The hull of what two bodies share."""
    sides, other_sides = hull_sides(one), hull_sides(other)
    borders = {}
    for plane in {**one, **other}:
        border, other_border = one.get(plane, {}), other.get(plane, {})
        # What of the one lies before the plane matters on the other one's border only.
        before = border_before(sides, plane) if other_border else {}
        other_before = border_before(other_sides, plane) if border else {}
        borders[plane] = common_border(plane, border, before, other_border, other_before)
    return hull_kept(borders)


def hull_joined(one, other):
    """The hull of what lies within one of two bodies or both."""
    return hull_either(hull_either(one, other), hull_common(one, other))


def walls_in(plane, border, sides):
    """The walls of a body in a plane and in the same turned over, of which one or both may have no points."""
    looking_back = border_common(plane, border, border_before(sides, plane))
    return [land_told(plane, border_either(border, looking_back)), land_told(over(plane), looking_back)]


def walls_kept(walls):
    """The list of a body's walls, of which some may have no points."""
    return tuple(sorted([wall for wall in walls if wall[1] != ()]))


def body_told(hull):
    """The body of a hull."""
    sides = hull_sides(hull)
    return walls_kept([wall for plane in hull for wall in walls_in(plane, hull[plane], sides)])
