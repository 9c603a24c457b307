"""Shortest scripts: the fewest steps that do what a script does, and the lifts and climbs that show it."""

from raisekeys.effects import effect, last_desk
from raisekeys.groups import heights, highest_way, sorting_raises
from raisekeys.plans import plan
from raisekeys.steps import flat
from raisekeys.wishes import is_linked, least_keeping


def shortest(desk, steps):
    """Return a shortest alike script of single moves and as many lifts, or a lift that shows that there is none."""
    rows = effect(desk, steps)
    pairs = set_pairs(rows)
    # In this order every set pair is wrong, so the chains of the plan are the lifts.
    order = least_keeping(desk.names(), pairs)[::-1]
    found = plan(order, pairs, fixed=bound_windows(desk, rows))
    if found[0] == "stuck":
        return ("none", found[1])
    # Every move costs 1, and no lift has two fixed ends, so every amount of the bundle is 1.
    lifts = [lift for lift, amount in found[2]]
    return ("script", found[1] + place_steps(desk, steps), lifts)


def shortest_groups(desk, steps):
    """Return a shortest alike script and a climb with the greatest count."""
    rows = effect(desk, steps)
    links = [(low, high, 1) for low, high in set_pairs(rows)] + [(low, high, 0) for low, high in left_pairs(rows)]
    height, before = heights(desk.names(), links)
    return ("script", sorting_raises(height) + place_steps(desk, steps), highest_way(height, before))


def set_pairs(rows):
    """Return the set pairs (low, high) of an effect."""
    return [(other, one) if word == "over" else (one, other) for one, other, word in rows if word != "left"]


def left_pairs(rows):
    """Return the windows of an effect that are left together, each two of them both ways."""
    left = [(one, other) for one, other, word in rows if word == "left"]
    return left + [(other, one) for one, other in left]


def bound_windows(desk, rows):
    """Return the windows that cannot be moved alone, because they are left together with another one."""
    bound = {one: True for one, other in left_pairs(rows)}
    return [name for name in desk.names() if name in bound]


def place_steps(desk, steps):
    """Return one place step for each window that a right script leaves elsewhere."""
    last = last_desk(desk, flat(steps))
    ends = [(name, last.rectangle(name)) for name in desk.names()]
    return [("place", name, rectangle) for name, rectangle in ends if rectangle != desk.rectangle(name)]


def is_lift(desk, steps, names):
    """Return whether a list of texts is a lift of a script."""
    pairs = set_pairs(effect(desk, steps))
    return len(names) > 1 and is_linked(pairs, names)


def climb_count(desk, steps, names):
    """Return the count of a climb of a script, or None if a list of texts is not a climb."""
    rows = effect(desk, steps)
    pairs = set_pairs(rows)
    if not is_linked(pairs + left_pairs(rows), names):
        return None
    # A list of one window has no links that tell whether the desk has it.
    if len(names) == 0 or names[0] not in desk.names():
        return None
    return sum([1 for pair in zip(names, names[1:]) if pair in pairs])
