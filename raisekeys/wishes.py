"""Wishes: lists of pairs (low, high) of windows, high to stand over low."""

from raisekeys.errors import BadWish, Impossible, Unknown


def check_known(names, given):
    """Raise Unknown for the first of the given texts that is no window."""
    for name in given:
        if name not in names:
            raise Unknown(name)


def check_wish(names, wish):
    """Raise BadWish for the first item that is not a pair of two different windows."""
    known = {name: True for name in names}
    for at, item in enumerate(wish):
        if not is_pair(known, item):
            raise BadWish(at)


def is_pair(known, item):
    """Return whether a value is a tuple of two different windows among the known ones."""
    if not isinstance(item, tuple) or len(item) != 2:
        return False
    return all([isinstance(name, str) and name in known for name in item]) and item[0] != item[1]


def places(order):
    """Return a dict of the windows of an order to their indexes."""
    return {name: at for at, name in enumerate(order)}


def keeps(order, wish):
    """Return whether high stands over low in the order for each pair of the wish."""
    check_wish(order, wish)
    place = places(order)
    return all([place[low] < place[high] for low, high in wish])


def settled(names, wish):
    """Return the least order that keeps the wish, as far as it goes before a ring stops it."""
    waiting = sorted(names)
    pairs = list(wish)
    found = []
    while True:
        held = {high: True for low, high in pairs}
        free = [name for name in waiting if name not in held]
        if not free:
            return found
        found.append(free[0])
        waiting.remove(free[0])
        pairs = [(low, high) for low, high in pairs if low != free[0]]


def least_keeping(names, wish):
    """Return the first order, in ascending order of lists, that keeps the wish."""
    check_wish(names, wish)
    found = settled(names, wish)
    if len(found) < len(names):
        raise Impossible()
    return found


def ring(names, wish):
    """Return a ring of the wish, or None."""
    check_wish(names, wish)
    free = places(settled(names, wish))
    # Each window that is not free has a low one that is not free either, so the way down comes back to itself.
    lows = {high: low for low, high in wish if low not in free}
    held = [name for name in names if name not in free]
    if not held:
        return None
    way = [held[0]]
    while lows[way[-1]] not in way:
        way.append(lows[way[-1]])
    return way[way.index(lows[way[-1]]):][::-1]


def is_ring(names, wish, claimed):
    """Return whether a list of texts is a ring of the wish."""
    check_wish(names, wish)
    if len(claimed) < 2 or len(set(claimed)) < len(claimed):
        return False
    return is_linked(wish, [*claimed, claimed[0]])


def is_linked(wish, names):
    """Return whether each window of a list and the next one are a pair of the wish."""
    known = {pair: True for pair in wish}
    return all([pair in known for pair in zip(names, names[1:])])
