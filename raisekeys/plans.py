"""Plans: the cheapest moves of single windows after which an order keeps a wish."""

from raisekeys.chains import all_trails, wrong_chain, wrong_count, wrong_ends
from raisekeys.errors import BadCost
from raisekeys.flows import Flow
from raisekeys.wishes import check_known, check_wish, least_keeping, ring

MOST_COST = 1000


def plan(order, wish, *, costs=None, fixed=()):
    """Return a cheapest plan and a bundle of the same sum, or a stuck chain, or first of all a ring."""
    prices = checked_prices(order, wish, costs, fixed)
    found = ring(order, wish)
    if found is not None:
        return ("ring", found)
    trails = all_trails(order, wish)
    links = {begin: wrong_ends(order, trails[begin]) for begin in order}
    for begin in fixed:
        for end in links[begin]:
            if end in fixed:
                return ("stuck", wrong_chain(trails[begin], end))
    flow = Flow(links, limits_of(prices, fixed))
    bundle = [(wrong_chain(trails[begin], end), amount) for begin, end, amount in flow.amounts()]
    return ("plan", moves(order, wish, flow.full_begins(), flow.full_ends()), bundle)


def checked_prices(order, wish, costs, fixed):
    """Return a dict of every window to its cost, after all checks of the arguments."""
    check_wish(order, wish)
    given = {} if costs is None else costs
    check_known(order, sorted(given))
    for name in sorted(given):
        if not 1 <= given[name] <= MOST_COST:
            raise BadCost(name)
    check_known(order, fixed)
    return {name: given.get(name, 1) for name in order}


def limits_of(prices, fixed):
    """Return a dict of every window to the most that may begin or end with it in a bundle."""
    # All chains of a fixed window have less in all, because at their other ends stand windows that are not fixed.
    boundless = sum([prices[name] for name in prices])
    return {name: boundless if name in fixed else prices[name] for name in prices}


def moves(order, wish, lowered, raised):
    """Return the single moves of these windows that put them below all others, and over all others, as wished."""
    right = least_keeping(order, wish)
    # The window that is moved last gets to the very bottom or to the very top.
    lowers = [("lower", [name]) for name in right[::-1] if name in lowered]
    return lowers + [("raise", [name]) for name in right if name in raised]


def is_bundle(order, wish, bundle, *, costs=None, fixed=()):
    """Return whether a list of tuples is a bundle in which no chain begins and ends with fixed windows."""
    prices = checked_prices(order, wish, costs, fixed)
    for chain, amount in bundle:
        # A list that is no chain has None in the place of a count.
        if not wrong_count(order, wish, chain) or amount < 1:
            return False
        if chain[0] in fixed and chain[-1] in fixed:
            return False
    return all([fits(bundle, name, prices[name]) for name in order if name not in fixed])


def fits(bundle, name, cost):
    """Return whether the chains that begin with a window, and those that end with it, have the cost at most."""
    begun = sum([amount for chain, amount in bundle if chain[0] == name])
    ended = sum([amount for chain, amount in bundle if chain[-1] == name])
    return begun <= cost and ended <= cost


def chain_count(order, wish, chain):
    """Return the count of a chain, or None if a list of texts is not a chain."""
    check_wish(order, wish)
    return wrong_count(order, wish, chain)
