"""Lands where a plane cuts them: rims, traces and parts."""

from solidyard.borders import border_of, meeting, row_before
from solidyard.lands import land_told
from solidyard.lines import line_common
from solidyard.planes import height, over
from solidyard.rings import sides_of
from solidyard.rows import row_common


def rim(land, plane):
    """The row of the points right in front of which the land lies, on the line that its plane and the plane share."""
    line = line_common(land[0], plane)
    if line is None:
        return ()
    return row_before(sides_of(land[1]), line, plane)


def trace(land, plane):
    """The row of the points right in front of which and right behind which the land lies."""
    line = line_common(land[0], plane)
    if line is None:
        return ()
    return row_common(line, rim(land, plane), rim(land, over(plane)))


def side_before(p, q, plane):
    """What of the stretch from p to q lies in front of a plane: a list of one stretch or of none."""
    high, low = height(plane, p), height(plane, q)
    if high <= 0 and low <= 0:
        return []
    if high >= 0 and low >= 0:
        return [(p, q)]
    here = meeting(p, high, q, low)
    return [(p, here)] if high > 0 else [(here, q)]


def land_part(land, plane):
    """The land, in its own plane, of the points that lie in front of the plane."""
    sides = sides_of(land[1])
    kept = [stretch for p, q in sides for stretch in side_before(p, q, plane)]
    # Where the plane cuts the land off, the rim goes along.
    return land_told(land[0], border_of(kept + list(rim(land, plane))))
