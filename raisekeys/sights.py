"""Sights: which windows are seen, and what that tells about the order."""

from raisekeys.errors import BadFact
from raisekeys.orders import check_order
from raisekeys.rects import covers


def covering(desk, names, x, y):
    """Return those of the windows, in the order of the list, that cover a cell."""
    return [name for name in names if covers(desk.rectangle(name), x, y)]


def seen(desk, order, x, y):
    """Return the window that is seen at a cell, or None."""
    check_order(desk, order)
    return top_window(desk, order, x, y)


def top_window(desk, order, x, y):
    """Return the last window of a right order that covers a cell, or None."""
    found = covering(desk, order, x, y)
    return found[-1] if found else None


def tiles(desk, order):
    """Return the tiles of an order, band by band, each band from left to right."""
    check_order(desk, order)
    rectangles = [desk.rectangle(name) for name in order]
    columns = sorted({side for rectangle in rectangles for side in (rectangle[0], rectangle[2])})
    rows = sorted({side for rectangle in rectangles for side in (rectangle[1], rectangle[3])})
    found = []
    for top, bottom in zip(rows, rows[1:]):
        runs = band_runs(desk, order, columns, top)
        found.extend([((left, top, right, bottom), name) for left, right, name in runs])
    return found


def band_runs(desk, order, columns, y):
    """Return the tuples (left, right, name) of the windows that are seen without interruption at this height."""
    runs = []
    for left, right in zip(columns, columns[1:]):
        name = top_window(desk, order, left, y)
        if name is None:
            continue
        if runs and runs[-1][1:] == (left, name):
            runs[-1] = (runs[-1][0], right, name)
        else:
            runs.append((left, right, name))
    return runs


def agrees(desk, fact):
    """Return whether a fact agrees with the desk."""
    x, y, name = fact
    found = covering(desk, desk.names(), x, y)
    if name is None:
        return not found
    return name in found


def agreeing(desk, facts):
    """Return the index of the first fact that does not agree with the desk, or None."""
    for at, fact in enumerate(facts):
        if not agrees(desk, fact):
            return at
    return None


def demanded(desk, facts):
    """Return the ascending list, without duplicates, of the pairs that an order keeps if it shows the facts."""
    wrong = agreeing(desk, facts)
    if wrong is not None:
        raise BadFact(wrong)
    pairs = []
    for x, y, name in facts:
        pairs.extend([(other, name) for other in covering(desk, desk.names(), x, y) if other != name])
    return sorted(set(pairs))
