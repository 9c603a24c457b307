"""Runs: the desk and the order after a script."""

from raisekeys.orders import check_order
from raisekeys.steps import check_script, flat


def run(desk, order, steps):
    """Return the tuple (desk, order) after a script."""
    check_order(desk, order)
    check_script(desk, steps)
    return run_plain(desk, order, flat(steps))


def run_plain(desk, order, steps):
    """Return the tuple (desk, order) after plain steps that are known to be right."""
    found = list(order)
    for step in steps:
        if step[0] == "place":
            desk = desk.placed(step[1], step[2])
        else:
            found = moved(found, step)
    return (desk, found)


def moved(order, step):
    """Return the order after a raise or lower step."""
    named = [name for name in order if name in step[1]]
    others = [name for name in order if name not in step[1]]
    return others + named if step[0] == "raise" else named + others
