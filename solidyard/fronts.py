"""What of a body lies right in front of a plane."""

from solidyard.lands import land_told
from solidyard.rings import sides_of
from solidyard.walls import border_before


def land_before(body, plane):
    """The land, in a plane, of its points right in front of which the body lies."""
    sides = {wall: sides_of(rings) for wall, rings in body}
    return land_told(plane, border_before(sides, plane))
