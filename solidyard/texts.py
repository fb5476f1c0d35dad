"""Numbers, points, rings and bodies as texts."""

from solidyard.bodies import body_of, heap_of
from solidyard.errors import NoText, TooGreat
from solidyard.lowest import fraction, lowest_over

FIGURES = "0123456789"
MOST_FIGURES = 60


def shown_whole(number):
    """A whole number of at most sixty figures, written."""
    # Asked ahead of writing, because Python writes no number of some thousand figures.
    if abs(number) >= 10 ** 60:
        raise TooGreat("a number has more than sixty figures")
    return str(number)


def shown_number(number):
    """A fraction, written."""
    top, bottom = shown_whole(number[0]), shown_whole(number[1])
    return top if number[1] == 1 else top + "/" + bottom


def is_figures(text):
    """True where a text is one to sixty figures."""
    return 1 <= len(text) <= MOST_FIGURES and all(sign in FIGURES for sign in text)


def is_whole(text):
    """True where a text is one to sixty figures with one minus sign or none ahead."""
    return is_figures(text.removeprefix("-"))


def read_number(line):
    """The fraction that a text tells."""
    top, stroke, bottom = line.partition("/")
    if stroke == "":
        bottom = "1"
    if not is_whole(top) or not is_figures(bottom) or int(bottom) == 0:
        raise NoText("this is no number")
    return fraction(int(top), int(bottom))


def shown_point(point):
    """A point, written."""
    return " ".join([shown_number(fraction(number, point[3])) for number in point[:3]])


def read_point(line):
    """The point that a text tells."""
    words = line.split(" ")
    if len(words) != 3:
        raise NoText("this is no point")
    (x, u), (y, v), (z, w) = [read_number(word) for word in words]
    return lowest_over((x * v * w, y * u * w, z * u * v, u * v * w))


def shown_rings(rings):
    """Rings of one point at least, written."""
    if len(rings) == 0:
        return "none"
    return " | ".join([", ".join([shown_point(p) for p in ring]) for ring in rings])


def read_rings(line):
    """The rings that a text tells."""
    if line == "none":
        return ()
    return tuple([tuple([read_point(told) for told in ring.split(", ")]) for ring in line.split(" | ")])


def shown(body):
    """A body, written."""
    return shown_rings(heap_of(body))


def read(line):
    """The body that a text tells."""
    return body_of(read_rings(line))
