"""Sessions: logs that change by deeds, with turns that can be undone and watches that tell what changed."""

from raisekeys.errors import BadDeed, BadWatch, Full, NothingLeft, NoWatch
from raisekeys.sights import top_window
from raisekeys.steps import begins_with

MOST_WATCHES = 16
DEED_WORDS = ("add", "strike", "restore", "merge")


def check_deeds(deeds):
    """Raise BadDeed with the index of the first tuple that is not a deed."""
    for at, deed in enumerate(deeds):
        if not is_deed(deed):
            raise BadDeed(at)


def is_deed(deed):
    """Return whether a value is a tuple that begins with the word of a deed and has as many items as that deed."""
    return begins_with(deed, DEED_WORDS) and len(deed) == (3 if deed[0] == "add" else 2)


def act(log, deed):
    """Do a deed to a log."""
    if deed[0] == "add":
        log.add(deed[1], deed[2])
    elif deed[0] == "strike":
        log.strike(deed[1])
    elif deed[0] == "restore":
        log.restore(deed[1])
    else:
        log.merge(deed[1])


def is_question(desk, question):
    """Return whether a tuple asks for two different windows of the desk, or for a cell."""
    if len(question) != 3:
        return False
    word, one, other = question
    if word == "pair":
        return one != other and one in desk.names() and other in desk.names()
    return word == "cell" and isinstance(one, int) and isinstance(other, int)


def answer_to(question, desk, order):
    """Return the answer to a right question."""
    word, one, other = question
    if word == "cell":
        return top_window(desk, order, one, other)
    if not desk.overlap(one, other):
        return "apart"
    return "over" if order.index(one) > order.index(other) else "under"


class Session:
    """A log with turns and watches.

    `held` is the log. No turn changes it: each one puts a changed clone in its place, so that `past`, the logs before
    the turns that can be undone, and `future`, the logs after those that can be redone, stay right. `asked` is a dict
    of the numbers of the watches to their questions, `told` one to the answers that were told last, and `made` the
    number of the watch that was made last.
    """

    def __init__(self, log):
        self.held = log.clone()
        self.past = []
        self.future = []
        self.asked = {}
        self.told = {}
        self.made = 0

    def do(self, deed):
        """Do one deed as a turn."""
        self.do_all([deed])

    def do_all(self, deeds):
        """Do all deeds of a list as one turn, or none of them."""
        check_deeds(deeds)
        changed = self.held.clone()
        for deed in deeds:
            act(changed, deed)
        self.past.append(self.held)
        self.held = changed
        self.future = []

    def add(self, stamp, step):
        """Add an entry as a turn."""
        self.do(("add", stamp, step))

    def undo(self):
        """Undo the last turn."""
        if not self.past:
            raise NothingLeft()
        self.future.append(self.held)
        self.held = self.past.pop()

    def redo(self):
        """Redo the turn that was undone last."""
        if not self.future:
            raise NothingLeft()
        self.past.append(self.held)
        self.held = self.future.pop()

    def turns(self):
        """Return the tuple of the numbers of turns that can be undone and redone."""
        return (len(self.past), len(self.future))

    def log(self):
        """Return a clone of the log."""
        return self.held.clone()

    def order(self):
        """Return the current order."""
        return self.held.state()[1]

    def desk(self):
        """Return the current desk."""
        return self.held.state()[0]

    def seen(self, x, y):
        """Return the window that is seen at a cell, or None."""
        desk, order = self.held.state()
        return top_window(desk, order, x, y)

    def watch(self, question):
        """Make a watch and return its number."""
        if not is_question(self.held.desk(), question):
            raise BadWatch()
        if len(self.asked) >= MOST_WATCHES:
            raise Full(MOST_WATCHES)
        desk, order = self.held.state()
        self.made += 1
        self.asked[self.made] = question
        self.told[self.made] = answer_to(question, desk, order)
        return self.made

    def unwatch(self, number):
        """Remove a watch."""
        if number not in self.asked:
            raise NoWatch(number)
        del self.asked[number]
        del self.told[number]

    def answers(self):
        """Return the ascending list of tuples (number, answer) of all watches."""
        desk, order = self.held.state()
        return [(number, answer_to(self.asked[number], desk, order)) for number in sorted(self.asked)]

    def news(self):
        """Return the ascending list of the numbers of the watches whose answers were not told yet."""
        found = []
        for number, answer in self.answers():
            if answer != self.told[number]:
                found.append(number)
                self.told[number] = answer
        return found

    def twin(self):
        """Return an independent session with the same log, turns and watches, and the same news still to come."""
        found = Session(self.held)
        found.past = list(self.past)
        found.future = list(self.future)
        found.asked = dict(self.asked)
        found.told = dict(self.told)
        found.made = self.made
        return found

    def __eq__(self, other):
        return isinstance(other, Session) and self.held == other.held

    def __len__(self):
        return len(self.held)
