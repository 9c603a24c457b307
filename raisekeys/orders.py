"""Orders: lists of all windows of a desk from bottom to top."""

from raisekeys.errors import BadOrder
from raisekeys.wishes import least_keeping, places


def check_order(desk, order):
    """Raise BadOrder if a list is not an order of the desk."""
    if not is_order(desk, order):
        raise BadOrder()


def is_order(desk, order):
    """Return whether a list has each window of the desk once, and nothing else."""
    names = desk.names()
    return len(order) == len(names) and all([name in order for name in names])


def wish_of(desk, order):
    """Return the ascending list of all pairs (low, high) of overlapping windows that stand so."""
    check_order(desk, order)
    place = places(order)
    return sorted([(one, other) if place[one] < place[other] else (other, one) for one, other in desk.pairs()])


def alike(desk, one, other):
    """Return whether every two overlapping windows stand in the same way in both orders."""
    return wish_of(desk, one) == wish_of(desk, other)


def least_order(desk, order):
    """Return the first order, in ascending order of lists, among all that are alike to this one."""
    return least_keeping(desk.names(), wish_of(desk, order))
