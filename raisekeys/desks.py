"""Desks: named windows with rectangles."""

from raisekeys.errors import BadName, BadRectangle, BadSize, Unknown
from raisekeys.rects import common, is_rectangle

MOST_WINDOWS = 24
MOST_LETTERS = 6
LETTERS = "abcdefghijklmnopqrstuvwxyz"


def is_name(text):
    """Return whether a value is a name: a text of 1 to 6 lowercase letters."""
    if not isinstance(text, str) or not 1 <= len(text) <= MOST_LETTERS:
        return False
    return all([letter in LETTERS for letter in text])


def check_windows(windows):
    """Raise BadSize, BadName or BadRectangle if a dict does not describe a desk."""
    if not 1 <= len(windows) <= MOST_WINDOWS:
        raise BadSize()
    names = sorted(windows)
    # Two loops, because a wrong name anywhere comes before every wrong rectangle.
    for name in names:
        if not is_name(name):
            raise BadName(name)
    for name in names:
        if not is_rectangle(windows[name]):
            raise BadRectangle(name)


class Desk:
    """A desk of 1 to 24 windows. It never changes."""

    def __init__(self, windows):
        check_windows(windows)
        # The names are kept in ascending order, which names() and pairs() rely on.
        self.windows = {name: windows[name] for name in sorted(windows)}

    def names(self):
        """Return the ascending list of the names."""
        return list(self.windows)

    def rectangle(self, name):
        """Return the rectangle of a window."""
        if name not in self.windows:
            raise Unknown(name)
        return self.windows[name]

    def overlap(self, one, other):
        """Return whether two windows cover a common cell."""
        first = self.rectangle(one)
        second = self.rectangle(other)
        return common(first, second) is not None

    def pairs(self):
        """Return the ascending list of the overlapping windows (one, other) with one < other."""
        names = self.names()
        found = []
        for at, one in enumerate(names):
            found.extend([(one, other) for other in names[at + 1:] if self.overlap(one, other)])
        return found

    def placed(self, name, rectangle):
        """Return a desk with another rectangle for a window."""
        if name not in self.windows:
            raise Unknown(name)
        # No check here: all other windows are right, so the new desk can only refuse this rectangle.
        return Desk({**self.windows, name: rectangle})

    def __eq__(self, other):
        return isinstance(other, Desk) and self.windows == other.windows

    def __len__(self):
        return len(self.windows)

    def __repr__(self):
        return f"Desk({len(self.windows)} windows)"
