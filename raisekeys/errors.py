"""The errors of the package. Each one has the attribute `word`, the name of its class."""


class DeskError(ValueError):
    """The base class of the errors about wrong values."""

    def __init__(self, word="DeskError", why="a value is wrong"):
        ValueError.__init__(self, why)
        self.word = word


class BadName(DeskError):
    """A text is not a name."""

    def __init__(self, name):
        DeskError.__init__(self, "BadName", f"{name!r} is not a name")
        self.name = name


class BadRectangle(DeskError):
    """The tuple of a window is not a rectangle."""

    def __init__(self, name):
        DeskError.__init__(self, "BadRectangle", f"the tuple of the window {name!r} is not a rectangle")
        self.name = name


class BadSize(DeskError):
    """A desk has too few or too many windows."""

    def __init__(self):
        DeskError.__init__(self, "BadSize", "a desk has 1 to 24 windows")


class BadOrder(DeskError):
    """A list is not an order of the desk."""

    def __init__(self):
        DeskError.__init__(self, "BadOrder", "this is not an order of the desk")


class BadStep(DeskError):
    """An item of a script or a story is not a step of the desk."""

    def __init__(self, at):
        DeskError.__init__(self, "BadStep", f"item {at} is not a step of the desk")
        self.at = at


class TooLong(DeskError):
    """A script has too many steps, or it is too deep."""

    def __init__(self):
        DeskError.__init__(self, "TooLong", "the script has too many steps or is too deep")


class BadWish(DeskError):
    """An item of a wish is not a pair of two different windows."""

    def __init__(self, at):
        DeskError.__init__(self, "BadWish", f"item {at} is not a pair of two different windows")
        self.at = at


class BadFact(DeskError):
    """A fact does not agree with the desk."""

    def __init__(self, at):
        DeskError.__init__(self, "BadFact", f"fact {at} does not agree with the desk")
        self.at = at


class BadCost(DeskError):
    """The cost of a window is out of bounds."""

    def __init__(self, name):
        DeskError.__init__(self, "BadCost", f"the cost of the window {name!r} is not from 1 to 1000")
        self.name = name


class Impossible(DeskError):
    """No order fits."""

    def __init__(self):
        DeskError.__init__(self, "Impossible", "no order fits")


class BadStamp(DeskError):
    """A tuple is not a stamp."""

    def __init__(self):
        DeskError.__init__(self, "BadStamp", "this is not a stamp")


class Taken(DeskError):
    """There is an entry with this stamp."""

    def __init__(self, stamp):
        DeskError.__init__(self, "Taken", f"there is an entry with the stamp {stamp!r}")
        self.stamp = stamp


class Clash(DeskError):
    """Two logs have unequal steps with the same stamp."""

    def __init__(self, stamp):
        DeskError.__init__(self, "Clash", f"the two steps with the stamp {stamp!r} are unequal")
        self.stamp = stamp


class OtherLog(DeskError):
    """Two logs do not begin with equal desks and equal orders."""

    def __init__(self):
        DeskError.__init__(self, "OtherLog", "the logs do not begin with equal desks and orders")


class Full(DeskError):
    """There is no room for one more."""

    def __init__(self, most):
        DeskError.__init__(self, "Full", f"there is only room for {most}")
        self.most = most


class BadDeed(DeskError):
    """A tuple is not a deed."""

    def __init__(self, at):
        DeskError.__init__(self, "BadDeed", f"item {at} is not a deed")
        self.at = at


class BadWatch(DeskError):
    """A tuple is not a question that a watch can ask."""

    def __init__(self):
        DeskError.__init__(self, "BadWatch", "this is not a question of a watch")


class BadText(DeskError):
    """A row of a text is not a step."""

    def __init__(self, at):
        DeskError.__init__(self, "BadText", f"row {at} is not a step")
        self.at = at


class BadPage(DeskError):
    """A row of a page is wrong."""

    def __init__(self, row):
        DeskError.__init__(self, "BadPage", f"row {row} of the page is wrong")
        self.row = row


class Missing(LookupError):
    """The base class of the errors about things that are not there."""

    def __init__(self, word="Missing", why="something is not there"):
        LookupError.__init__(self, why)
        self.word = word


class Unknown(Missing):
    """The desk has no such window."""

    def __init__(self, name):
        Missing.__init__(self, "Unknown", f"there is no window {name!r}")
        self.name = name


class NoStamp(Missing):
    """The log has no entry with this stamp."""

    def __init__(self, stamp):
        Missing.__init__(self, "NoStamp", f"there is no entry with the stamp {stamp!r}")
        self.stamp = stamp


class NoWatch(Missing):
    """The session has no watch with this number."""

    def __init__(self, number):
        Missing.__init__(self, "NoWatch", f"there is no watch with the number {number}")
        self.number = number


class NothingLeft(IndexError):
    """There is no turn to undo or to redo."""

    def __init__(self):
        IndexError.__init__(self, "there is no turn left")
        self.word = "NothingLeft"
