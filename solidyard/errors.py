"""The refusals of Solidyard: one class for each kind, all straight under YardError."""


class YardError(ValueError):
    """Any refusal."""


class BottomNought(YardError):
    """A fraction over 0."""


class LastNought(YardError):
    """A point whose last number is 0."""


class NoPlane(YardError):
    """Numbers or points that tell no plane."""


class NoLine(YardError):
    """Points that tell no line."""


class OffLine(YardError):
    """A point that the line does not hold."""


class OffPlane(YardError):
    """A point that the plane does not hold."""


class OtherPlane(YardError):
    """Two lands of unlike planes."""


class NoWay(YardError):
    """A way of three noughts."""


class OnWall(YardError):
    """A point on a wall, where one off all walls is asked for."""


class MeetsEdge(YardError):
    """A half line that holds an edge point."""


class Pinched(YardError):
    """A body that is not plain."""


class FlatMove(YardError):
    """Numbers that tell no table."""


class NoText(YardError):
    """A text that cannot be read."""


class TooGreat(YardError):
    """A number with too many figures to be written."""


class NoRow(YardError):
    """A line that the desk does not know."""


class NoName(YardError):
    """A name that stands for nothing."""


class NoUndo(YardError):
    """No deed is left to be taken back."""


class NoAgain(YardError):
    """No deed is left to be done again."""


class NotFlat(YardError):
    """A ring that no plane holds; at is its place in the heap."""

    def __init__(self, at):
        super().__init__("a ring is not flat")
        self.at = at


class NotClosed(YardError):
    """A heap that leaves a gap; gap is the stretch where it does."""

    def __init__(self, gap):
        # The message leaves the gap out: Python writes no number of some thousand figures.
        super().__init__("the rings are not closed")
        self.gap = gap
