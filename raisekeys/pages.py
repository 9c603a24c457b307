"""Pages: logs written as texts."""

from raisekeys.desks import MOST_WINDOWS, Desk
from raisekeys.errors import BadPage, DeskError
from raisekeys.logs import Log
from raisekeys.texts import format_placement, format_step, read_placement, read_stamp, read_step


def page(log):
    """Return the page of a log."""
    windows = [format_placement(name, log.desk().rectangle(name)) for name in log.order()]
    rows = [f"window {window}" for window in windows] + [entry_row(entry) for entry in log.entries()]
    return "".join([f"{row}\n" for row in rows])


def entry_row(entry):
    """Return the row of an entry of a log."""
    (number, user), step, is_struck = entry
    word = "struck" if is_struck else "entry"
    return f"{word} {number} {user} {format_step(step)}"


def read_page(text):
    """Return the log of a page."""
    *rows, rest = text.split("\n")
    windows = read_windows(rows)
    # Without windows there is no row, or the first one is wrong.
    if not windows:
        raise BadPage(0)
    log = Log(Desk(windows), list(windows))
    read_entries(log, rows)
    if rest != "":
        raise BadPage(len(rows))
    return log


def read_windows(rows):
    """Return a dict of the windows in the first rows of a page to their rectangles, from bottom to top."""
    windows = {}
    for at, row in enumerate(rows):
        word, *words = row.split(" ")
        if word != "window":
            break
        placement = read_placement(words)
        if placement is None or placement[0] in windows or len(windows) == MOST_WINDOWS:
            raise BadPage(at)
        windows[placement[0]] = placement[1]
    return windows


def read_entries(log, rows):
    """Add the entries in the rows of a page behind its windows to its log."""
    # This one comes before every stamp.
    before = (-1, "")
    for at in range(len(log.desk()), len(rows)):
        entry = read_entry(rows[at].split(" "))
        if entry is None or entry[0] <= before:
            raise BadPage(at)
        add_entry(log, entry, at)
        before = entry[0]


def read_entry(words):
    """Return the tuple (stamp, step, struck) that words write, or None. The stamp and the step may be no right ones."""
    if words[0] not in ("entry", "struck"):
        return None
    stamp = read_stamp(words[1:3])
    step = read_step(words[3:])
    return None if stamp is None or step is None else (stamp, step, words[0] == "struck")


def add_entry(log, entry, at):
    """Add an entry to the log, or raise BadPage with its row if the log refuses it."""
    stamp, step, is_struck = entry
    try:
        log.add(stamp, step)
    except DeskError:
        raise BadPage(at) from None
    if is_struck:
        log.strike(stamp)
