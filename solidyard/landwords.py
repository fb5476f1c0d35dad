"""The four words of two lands in one plane."""

from solidyard.borders import border_common, border_either, border_joined, border_less
from solidyard.errors import OtherPlane
from solidyard.lands import land_border, land_told


def land_made(one, other, word):
    """The land whose border word(plane, border, other_border) makes of the borders of two lands."""
    plane = one[0]
    if other[0] != plane:
        raise OtherPlane("the lands lie in unlike planes")
    return land_told(plane, word(plane, land_border(one), land_border(other)))


def land_joined(one, other):
    """What belongs to one of two lands or both."""
    return land_made(one, other, border_joined)


def land_common(one, other):
    """What two lands share."""
    return land_made(one, other, border_common)


def land_less(one, other):
    """The first land without the second."""
    return land_made(one, other, border_less)


def land_either(one, other):
    """What belongs to one of two lands but not to the other."""
    return land_made(one, other, lambda plane, border, other_border: border_either(border, other_border))
