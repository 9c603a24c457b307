"""Chains of a wish: lists of two or more windows of which each one and the next one are a pair of the wish."""

from raisekeys.wishes import is_linked, places


def wrong_count(order, wish, chain):
    """Return how many pairs of a chain are wrong in the order, or None if a list is not a chain."""
    if len(chain) < 2 or not is_linked(wish, chain):
        return None
    place = places(order)
    return sum([1 for low, high in zip(chain, chain[1:]) if place[low] > place[high]])


def all_trails(order, wish):
    """Return a dict of each window to its trail."""
    place = places(order)
    highs = {name: [] for name in order}
    for low, high in wish:
        highs[low].append(high)
    return {name: trail(place, highs, name) for name in order}


def trail(place, highs, begin):
    """Return how chains that begin with a window go on: a dict of each state that they reach to the state before it.

    A state is a tuple of a window and of whether the chain has a wrong pair up to there.
    """
    before = {(begin, False): None}
    reached = [(begin, False)]
    while reached:
        found = []
        for low, is_wrong in reached:
            for high in highs[low]:
                state = (high, is_wrong or place[low] > place[high])
                if state not in before:
                    before[state] = (low, is_wrong)
                    found.append(state)
        reached = found
    return before


def wrong_ends(order, before):
    """Return the windows with which the chains of a trail end that have a wrong pair."""
    return [name for name in order if (name, True) in before]


def wrong_chain(before, end):
    """Return a chain of a trail that ends with a window and has a wrong pair."""
    found = []
    state = (end, True)
    while state is not None:
        found.append(state[0])
        state = before[state]
    return found[::-1]
