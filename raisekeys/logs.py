"""Logs: the stamped steps of several users, which can be struck, restored and merged."""

from raisekeys.desks import is_name
from raisekeys.effects import idle
from raisekeys.errors import BadStamp, BadStep, Clash, Full, NoStamp, OtherLog, Taken
from raisekeys.orders import check_order
from raisekeys.partings import partings
from raisekeys.runs import run_plain
from raisekeys.steps import fresh_step, is_plain_step
from raisekeys.wishes import check_known

MOST_ENTRIES = 200
MOST_NUMBER = 10 ** 18


def is_stamp(stamp):
    """Return whether a value is a stamp: a tuple of a number in bounds and a name."""
    if not isinstance(stamp, tuple) or len(stamp) != 2 or not isinstance(stamp[0], int):
        return False
    return 0 <= stamp[0] <= MOST_NUMBER and is_name(stamp[1])


class Log:
    """A desk, an order and entries.

    `rows` is a dict of the stamps to tuples (step, struck). The lists in it are never changed and never given away,
    so that a clone may share them.
    """

    def __init__(self, desk, order):
        check_order(desk, order)
        self.first_desk = desk
        self.first_order = list(order)
        self.rows = {}

    def add(self, stamp, step):
        """Add an entry."""
        if not is_stamp(stamp):
            raise BadStamp()
        if not is_plain_step(self.first_desk, step):
            raise BadStep(0)
        if stamp in self.rows:
            raise Taken(stamp)
        if len(self.rows) >= MOST_ENTRIES:
            raise Full(MOST_ENTRIES)
        self.rows[stamp] = (fresh_step(step), False)

    def strike(self, stamp):
        """Strike an entry."""
        self.mark(stamp, True)

    def restore(self, stamp):
        """Restore an entry."""
        self.mark(stamp, False)

    def mark(self, stamp, is_struck):
        """Let an entry be struck or not."""
        self.check_stamp(stamp)
        self.rows[stamp] = (self.rows[stamp][0], is_struck)

    def check_stamp(self, stamp):
        """Raise NoStamp if there is no entry with this stamp."""
        if stamp not in self.rows:
            raise NoStamp(stamp)

    def merge(self, other):
        """Add the entries of another log."""
        self.check_merge(other)
        for stamp in list(other.rows):
            step, is_struck = other.rows[stamp]
            was_struck = stamp in self.rows and self.rows[stamp][1]
            self.rows[stamp] = (step, is_struck or was_struck)

    def began_as(self, other):
        """Return whether another log began with an equal desk and an equal order."""
        return self.first_desk == other.first_desk and self.first_order == other.first_order

    def check_merge(self, other):
        """Raise OtherLog, Clash or Full if the entries of another log cannot be added."""
        if not self.began_as(other):
            raise OtherLog()
        shared = [stamp for stamp in sorted(other.rows) if stamp in self.rows]
        for stamp in shared:
            if self.rows[stamp][0] != other.rows[stamp][0]:
                raise Clash(stamp)
        if len(self.rows) + len(other.rows) - len(shared) > MOST_ENTRIES:
            raise Full(MOST_ENTRIES)

    def entries(self):
        """Return the list of tuples (stamp, step, struck) in ascending order of the stamps."""
        return [(stamp, fresh_step(self.rows[stamp][0]), self.rows[stamp][1]) for stamp in sorted(self.rows)]

    def desk(self):
        """Return the desk that the log began with."""
        return self.first_desk

    def order(self):
        """Return the order that the log began with."""
        return list(self.first_order)

    def standing(self):
        """Return the ascending list of the stamps of the entries that are not struck."""
        return [stamp for stamp in sorted(self.rows) if not self.rows[stamp][1]]

    def standing_steps(self):
        """Return the steps of the entries that are not struck, in ascending order of their stamps."""
        return [self.rows[stamp][0] for stamp in self.standing()]

    def state(self):
        """Return the tuple (desk, order) after the entries that are not struck."""
        return run_plain(self.first_desk, self.first_order, self.standing_steps())

    def matters(self, stamp):
        """Return whether the state would be another one, from some order, without an entry."""
        self.check_stamp(stamp)
        stamps = self.standing()
        return stamp in stamps and stamps.index(stamp) not in idle(self.first_desk, self.standing_steps())

    def parting(self, one, other):
        """Return the stamp of the last entry that is not struck and parts two windows, or None."""
        check_known(self.first_desk.names(), [one, other])
        found = partings(self.standing_steps(), one, other)
        return self.standing()[found[-1]] if found else None

    def clone(self):
        """Return an independent log with the same contents."""
        twin_log = Log(self.first_desk, self.first_order)
        twin_log.rows = {stamp: self.rows[stamp] for stamp in self.rows}
        return twin_log

    def __eq__(self, other):
        return isinstance(other, Log) and self.began_as(other) and self.rows == other.rows

    def __len__(self):
        return len(self.rows)

    def __repr__(self):
        return f"Log({len(self.first_desk)} windows, {len(self.rows)} entries)"
