"""The four words of two bodies."""

from solidyard.walls import body_hull, body_told, hull_common, hull_either, hull_joined


def joined(one, other):
    """What lies within one of two bodies or both."""
    return body_told(hull_joined(body_hull(one), body_hull(other)))


def common(one, other):
    """What two bodies share."""
    return body_told(hull_common(body_hull(one), body_hull(other)))


def less(one, other):
    """The first body without the second."""
    hull = body_hull(one)
    return body_told(hull_either(hull, hull_common(hull, body_hull(other))))


def either(one, other):
    """What lies within one of two bodies but not within the other."""
    return body_told(hull_either(body_hull(one), body_hull(other)))
