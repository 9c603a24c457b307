"""Group plans: the fewest moves of groups of windows after which an order keeps a wish."""

from raisekeys.wishes import places, ring


def steps_for(count):
    """Return the least k with 2 ** k > count."""
    return count.bit_length()


def group_plan(order, wish):
    """Return the fewest raise steps after which the order keeps the wish and a chain that shows it, or a ring."""
    found = ring(order, wish)
    if found is not None:
        return ("ring", found)
    place = places(order)
    links = [(low, high, 1 if place[low] > place[high] else 0) for low, high in wish]
    height, before = heights(order, links)
    return ("steps", sorting_raises(height), highest_way(height, before))


def heights(names, links):
    """Return how high each window stands, and a dict of windows to the window before on a highest way.

    A link is a tuple (low, high, rise) with a rise of 0 or 1. The height of a window is the greatest sum of rises on a
    way of links that ends with it. No way that comes back to its first window rises.
    """
    height = {name: 0 for name in names}
    before = {}
    is_settled = False
    while not is_settled:
        is_settled = True
        for low, high, rise in links:
            if height[low] + rise > height[high]:
                height[high] = height[low] + rise
                before[high] = low
                is_settled = False
    return (height, before)


def greatest(height):
    """Return the greatest height, 0 without windows."""
    return max([height[name] for name in height], default=0)


def sorting_raises(height):
    """Return the raise steps that put each window over all lower ones and keep windows of one height as they are."""
    # As in sorting by one digit after the other: the last digit in which two heights differ decides. On the way to the
    # greatest height every lower one occurs, so that each digit is 1 in some height and no step is without names.
    most = steps_for(greatest(height))
    return [("raise", [name for name in height if height[name] >> digit & 1 == 1]) for digit in range(most)]


def highest_way(height, before):
    """Return the windows on a way to the greatest height, or the empty list if no way rises."""
    most = greatest(height)
    if most == 0:
        return []
    way = [name for name in height if height[name] == most][:1]
    while way[-1] in before:
        way.append(before[way[-1]])
    return way[::-1]
