"""Stories: what is seen between steps, and what it tells about the order at the start."""

from raisekeys.errors import Impossible
from raisekeys.sights import agrees, covering
from raisekeys.steps import begins_with, is_list, is_plain_step, refuse_first_wrong
from raisekeys.wishes import check_known, check_wish, least_keeping, ring


class Tale:
    """A story that is told up to its end, or up to the first fact that shows a contradiction.

    `now` is the desk at that time. `put` is a dict of the pairs (low, high) that stand so by a step to the index of
    the last step that parted them. `wanted` is a dict of the pairs that the facts demand of the starting order, and
    `flaw` the contradiction that a fact shows, or None.
    """

    def __init__(self, desk, events):
        self.now = desk
        self.put = {}
        self.wanted = {}
        self.flaw = None
        for at, event in enumerate(events):
            self.tell(at, event)
            if self.flaw is not None:
                break

    def tell(self, at, event):
        """Go on by one event."""
        if event[0] == "see":
            self.see(at, event[1])
        elif event[0] == "place":
            self.now = self.now.placed(event[1], event[2])
        else:
            self.move(at, event)

    def move(self, at, step):
        """Note which windows a raise or lower step puts over which others."""
        named = [name for name in self.now.names() if name in step[1]]
        others = [name for name in self.now.names() if name not in step[1]]
        lows, highs = (others, named) if step[0] == "raise" else (named, others)
        for low in lows:
            for high in highs:
                self.put[(low, high)] = at
                self.put.pop((high, low), None)

    def see(self, at, facts):
        """Note what facts demand, up to the first one that shows a contradiction."""
        for index, fact in enumerate(facts):
            if not agrees(self.now, fact):
                self.flaw = ("fact", at, index)
                return
            x, y, name = fact
            lows = [low for low in covering(self.now, self.now.names(), x, y) if low != name]
            against = [low for low in lows if (name, low) in self.put]
            if against:
                self.flaw = ("step", at, index, against[0], self.put[(name, against[0])])
                return
            for low in lows:
                if (low, name) not in self.put:
                    self.wanted[(low, name)] = True


def check_events(desk, events):
    """Raise BadStep for the first event that is neither a sight nor a plain step of the desk."""
    refuse_first_wrong([is_event(desk, event) for event in events])


def is_event(desk, event):
    """Return whether a value is a sight with a list of facts, or a plain step of the desk."""
    if begins_with(event, ("see",)):
        return len(event) == 2 and is_list(event[1])
    return is_plain_step(desk, event)


def contradiction(desk, events):
    """Return a contradiction of a story, or None."""
    check_events(desk, events)
    return contradiction_of(Tale(desk, events))


def contradiction_of(tale):
    """Return the contradiction that a fact of a tale shows, or else a ring of what it demands, or None."""
    if tale.flaw is not None:
        return tale.flaw
    found = ring(tale.now.names(), sorted(tale.wanted))
    return None if found is None else ("ring", found)


def fitting_tale(desk, events):
    """Return the tale of right events, or raise Impossible if no starting order fits."""
    tale = Tale(desk, events)
    if contradiction_of(tale) is not None:
        raise Impossible()
    return tale


def demands(desk, events):
    """Return the ascending list of the pairs that a story demands of the starting order."""
    check_events(desk, events)
    return sorted(fitting_tale(desk, events).wanted)


def least_start(desk, events):
    """Return the first starting order, in ascending order of lists, that fits a story."""
    return least_keeping(desk.names(), demands(desk, events))


def sure(desk, events, one, other):
    """Return how `one` is sure to stand at the end of a story: over `other` or under it, or `open`."""
    check_events(desk, events)
    check_known(desk.names(), [one, other])
    check_wish(desk.names(), [(one, other)])
    tale = fitting_tale(desk, events)
    if is_sure(tale, other, one):
        return "over"
    return "under" if is_sure(tale, one, other) else "open"


def is_sure(tale, low, high):
    """Return whether high stands over low at the end of a tale, whichever fitting order it began with."""
    if (low, high) in tale.put or (high, low) in tale.put:
        return (low, high) in tale.put
    # If no fitting order has them the other way round, to wish so leads to a ring.
    return ring(tale.now.names(), [*sorted(tale.wanted), (high, low)]) is not None
