"""What of a body lies right in front of a plane."""

from solidyard.lands import land_told
from solidyard.walls import body_sides, border_before


def land_before(body, plane):
    """The land, in a plane, of its points right in front of which the body lies."""
    return land_told(plane, border_before(body_sides(body), plane))
