"""Consoles: sessions that are led by lines of words."""

from raisekeys.errors import DeskError, Missing, NothingLeft
from raisekeys.groups import group_plan
from raisekeys.orders import wish_of
from raisekeys.plans import plan
from raisekeys.texts import read_number, read_stamp, read_step
from raisekeys.wishes import check_known

UNKNOWN = "unknown"


def yes_or_no(verdict):
    """Return the word for a verdict."""
    return "yes" if verdict else "no"


def answer_add(session, words):
    """Add an entry."""
    stamp = read_stamp(words[:2])
    step = read_step(words[2:])
    if stamp is None or step is None:
        return UNKNOWN
    session.add(stamp, step)
    return "ok"


def answer_strike(session, words):
    """Strike an entry."""
    return answer_mark(session, "strike", words)


def answer_restore(session, words):
    """Restore an entry."""
    return answer_mark(session, "restore", words)


def answer_mark(session, word, words):
    """Strike or restore an entry."""
    stamp = read_stamp(words)
    if stamp is None:
        return UNKNOWN
    session.do((word, stamp))
    return "ok"


def answer_undo(session, words):
    """Undo the last turn."""
    if words:
        return UNKNOWN
    session.undo()
    return "ok"


def answer_redo(session, words):
    """Redo the turn that was undone last."""
    if words:
        return UNKNOWN
    session.redo()
    return "ok"


def answer_order(session, words):
    """Tell the names from bottom to top."""
    return UNKNOWN if words else " ".join(session.order())


def answer_rectangle(session, words):
    """Tell the four numbers of a window."""
    if len(words) != 1:
        return UNKNOWN
    return " ".join([str(side) for side in session.desk().rectangle(words[0])])


def answer_seen(session, words):
    """Tell the window that is seen at a cell."""
    numbers = [read_number(word) for word in words]
    if len(numbers) != 2 or None in numbers:
        return UNKNOWN
    name = session.seen(numbers[0], numbers[1])
    return "none" if name is None else name


def answer_over(session, words):
    """Tell whether a window stands over another one."""
    if len(words) != 2:
        return UNKNOWN
    order = session.order()
    check_known(order, words)
    return yes_or_no(order.index(words[0]) > order.index(words[1]))


def answer_idle(session, words):
    """Tell whether an entry does not matter."""
    stamp = read_stamp(words)
    return UNKNOWN if stamp is None else yes_or_no(not session.log().matters(stamp))


def answer_fewest(session, words):
    """Tell the fewest single moves and the fewest group moves to an order that is alike to another one."""
    if not words:
        return UNKNOWN
    wish = wish_of(session.desk(), words)
    order = session.order()
    return f"{len(plan(order, wish)[1])} {len(group_plan(order, wish)[1])}"


ACTIONS = {
    "add": answer_add,
    "strike": answer_strike,
    "restore": answer_restore,
    "undo": answer_undo,
    "redo": answer_redo,
    "order": answer_order,
    "rectangle": answer_rectangle,
    "seen": answer_seen,
    "over": answer_over,
    "idle": answer_idle,
    "fewest": answer_fewest,
}


class Console:
    """A console that executes lines on a session. `lines` are all lines that it executed."""

    def __init__(self, session):
        self.used = session
        self.lines = []

    def session(self):
        """Return the session itself."""
        return self.used

    def execute(self, line):
        """Return the answer to a line."""
        self.lines.append(line)
        words = line.split(" ")
        if "" in words or words[0] not in ACTIONS:
            return UNKNOWN
        action = ACTIONS[words[0]]
        try:
            return action(self.used, words[1:])
        except (DeskError, Missing, NothingLeft) as error:
            return f"error {error.word}"

    def __len__(self):
        return len(self.lines)
