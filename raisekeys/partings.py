"""Partings: the steps that decide which one of two windows stands over the other."""

from raisekeys.steps import MOVES


def parts(step, one, other):
    """Return whether a plain step is a raise or lower step that names exactly one of two windows."""
    return step[0] in MOVES and (one in step[1]) != (other in step[1])


def partings(steps, one, other):
    """Return the ascending list of the indexes of the plain steps that part two windows."""
    return [at for at, step in enumerate(steps) if parts(step, one, other)]


def puts_over(step, one):
    """Return whether a step that parts the window `one` from another one puts it over that one."""
    return (step[0] == "raise") == (one in step[1])
