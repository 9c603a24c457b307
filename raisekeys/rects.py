"""Rectangles of cells: tuples (left, top, right, bottom)."""

MOST_COORDINATE = 10 ** 9


def is_rectangle(rectangle):
    """Return whether a value is a rectangle: four numbers in bounds that enclose at least one cell."""
    if not has_four_numbers(rectangle):
        return False
    left, top, right, bottom = rectangle
    if not all([-MOST_COORDINATE <= side <= MOST_COORDINATE for side in rectangle]):
        return False
    return left < right and top < bottom


def has_four_numbers(value):
    """Return whether a value is a tuple of four integers."""
    if not isinstance(value, tuple) or len(value) != 4:
        return False
    return all([isinstance(side, int) for side in value])


def covers(rectangle, x, y):
    """Return whether a rectangle covers the cell (x, y)."""
    left, top, right, bottom = rectangle
    return left <= x < right and top <= y < bottom


def common(one, other):
    """Return the rectangle of the cells that two rectangles share, or None if they share none."""
    left = max(one[0], other[0])
    top = max(one[1], other[1])
    right = min(one[2], other[2])
    bottom = min(one[3], other[3])
    if left < right and top < bottom:
        return (left, top, right, bottom)
    return None
