"""A desk, which keeps bodies by names and is told lines."""

from solidyard.corners import counts
from solidyard.cuts import cut, part
from solidyard.errors import NoAgain, NoName, NoRow, NoUndo
from solidyard.moves import moved, table
from solidyard.planes import plane
from solidyard.shells import handles
from solidyard.texts import is_whole, read, read_point, shown, shown_number, shown_rings
from solidyard.volumes import place, volume
from solidyard.words import common, either, joined, less

# What stands behind the first word of a line, a sign each: a name that is to stand for a body (n),
# one that stands for a body (b), a whole number (i), all the rest of the line (t).
FORMS = {
    "put": "nt", "joined": "nbb", "common": "nbb", "less": "nbb", "either": "nbb", "part": "nbiiii",
    "moved": "nbiiiiiiiiiiiii", "drop": "b",
    "shown": "b", "volume": "b", "place": "bt", "cut": "biiii", "counts": "b", "handles": "b", "lies": "bb",
    "names": "", "undo": "", "again": "",
}
QUESTIONS = ("shown", "volume", "place", "cut", "counts", "handles", "lies")
LETTERS = "abcdefghijklmnopqrstuvwxyz"
MOST_LETTERS = 12


def is_name(word):
    """True where a word is one to twelve small letters."""
    return 1 <= len(word) <= MOST_LETTERS and all(letter in LETTERS for letter in word)


def is_fit(kind, word):
    """True where a word is of the kind for which a sign in a form stands."""
    if kind == "t":
        return True
    return is_whole(word) if kind == "i" else is_name(word)


def words_of(line):
    """The first word of a line and a list of what stands behind it; refuses lines that are none of a desk's."""
    first, blank, rest = line.partition(" ")
    if first not in FORMS:
        raise NoRow("the first word is unknown")
    form = FORMS[first]
    # The last word is all that is left, so a blank too many makes it unfit, but for a text.
    words = rest.split(" ", max(len(form) - 1, 0)) if blank else []
    if len(words) != len(form):
        raise NoRow("the line has too many words or too few")
    for kind, word in zip(form, words):
        if not is_fit(kind, word):
            raise NoRow("a word of the line is of the wrong kind")
    return first, words


def body_made(first, given):
    """The body that a deed makes of what is given behind its name."""
    match first:
        case "put":
            return read(given[0])
        case "joined":
            return joined(given[0], given[1])
        case "common":
            return common(given[0], given[1])
        case "less":
            return less(given[0], given[1])
        case "either":
            return either(given[0], given[1])
        case "part":
            return part(given[0], plane(given[1], given[2], given[3], given[4]))
    numbers = tuple(given[1:])
    return moved(given[0], table(numbers[0:4], numbers[4:8], numbers[8:12], numbers[12]))


def answer_to(first, given):
    """The answer to a question about what is given."""
    match first:
        case "shown":
            return shown(given[0])
        case "volume":
            return shown_number(volume(given[0]))
        case "place":
            return str(place(given[0], read_point(given[1])))
        case "cut":
            return shown_rings(cut(given[0], plane(given[1], given[2], given[3], given[4]))[1])
        case "counts":
            return " ".join([str(many) for many in counts(given[0])])
        case "handles":
            return str(handles(given[0]))
    return "yes" if less(given[0], given[1]) == () else "no"


class Desk:
    """Bodies by their names, and what was done to them."""

    def __init__(self):
        self.bodies = {}
        # What the names stood for ahead of each deed that is left to be taken back,
        # and behind each that was taken back.
        self.past = []
        self.future = []

    def given_by(self, form, words):
        """What words stand for: bodies, whole numbers, names and texts."""
        given = []
        for kind, word in zip(form, words):
            if kind == "b":
                given.append(self.body_called(word))
            else:
                given.append(int(word) if kind == "i" else word)
        return given

    def body_called(self, name):
        """The body for which a name stands."""
        if name not in self.bodies:
            raise NoName("the name stands for nothing")
        return self.bodies[name]

    def do(self, bodies):
        """Lets names stand for other bodies, in a deed."""
        self.past.append(self.bodies)
        self.future = []
        self.bodies = bodies

    def undo(self):
        """Takes the last deed back."""
        if not self.past:
            raise NoUndo("no deed is left to be taken back")
        self.future.append(self.bodies)
        self.bodies = self.past.pop()

    def do_again(self):
        """Does the deed again that was taken back last."""
        if not self.future:
            raise NoAgain("no deed is left that was taken back")
        self.past.append(self.bodies)
        self.bodies = self.future.pop()

    def tell(self, line):
        """The answer to a line."""
        first, words = words_of(line)
        given = self.given_by(FORMS[first], words)
        if first in QUESTIONS:
            return answer_to(first, given)
        if first == "names":
            return " ".join(sorted(self.bodies)) or "none"
        if first == "undo":
            self.undo()
        elif first == "again":
            self.do_again()
        elif first == "drop":
            self.do({name: self.bodies[name] for name in self.bodies if name != words[0]})
        else:
            self.do({**self.bodies, words[0]: body_made(first, given[1:])})
        return "done"
