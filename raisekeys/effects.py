"""Effects: what a script does from every starting order, and what shows that two scripts differ."""

from raisekeys.orders import is_order
from raisekeys.partings import partings, puts_over
from raisekeys.runs import run_plain
from raisekeys.steps import check_plain_script, check_script, flat, is_list
from raisekeys.wishes import places


def effect(desk, steps):
    """Return the ascending list of (one, other, word) for the windows that overlap after a script."""
    check_script(desk, steps)
    plain = flat(steps)
    return [(one, other, effect_word(plain, one, other)) for one, other in last_desk(desk, plain).pairs()]


def last_desk(desk, plain):
    """Return the desk after plain steps that are known to be right."""
    return run_plain(desk, desk.names(), plain)[0]


def effect_word(plain, one, other):
    """Return how plain steps leave `one`: over `other`, under it, or as at the start."""
    found = partings(plain, one, other)
    if not found:
        return "left"
    return "over" if puts_over(plain[found[-1]], one) else "under"


def difference(desk, one, other):
    """Return a difference of two scripts, or None if they are alike."""
    first = effect(desk, one)
    second = effect(desk, other)
    moved = moved_windows(desk, one, other)
    if moved:
        return ("rectangle", moved[0])
    # The rectangles are the same, so both effects tell of the same windows.
    for row, other_row in zip(first, second):
        if row != other_row:
            return pair_difference(desk, row, other_row[2])
    return None


def moved_windows(desk, one, other):
    """Return the windows of which two right scripts leave different rectangles."""
    first = last_desk(desk, flat(one))
    second = last_desk(desk, flat(other))
    return [name for name in desk.names() if first.rectangle(name) != second.rectangle(name)]


def pair_difference(desk, row, other_word):
    """Return the difference of two scripts: a row of the effect of the first one has another word in the second one."""
    one, other, word = row
    # Where the first script leaves the two windows as they are, it has to leave them unlike the second one.
    is_over = other_word == "under" if word == "left" else word == "over"
    low, high = (other, one) if is_over else (one, other)
    # A script that leaves the two windows as they are shows them as in the start.
    start = [high, low] if other_word == "left" else [low, high]
    return ("pair", low, high, start + [name for name in desk.names() if name not in start])


def is_difference(desk, one, other, claimed):
    """Return whether a tuple of a text, texts and a list of texts is a difference of two scripts."""
    check_script(desk, one)
    check_script(desk, other)
    moved = moved_windows(desk, one, other)
    if claimed[:1] == ("rectangle",):
        return len(claimed) == 2 and claimed[1] in moved
    if claimed[:1] != ("pair",) or len(claimed) != 4 or moved:
        return False
    return is_pair_difference(desk, flat(one), flat(other), claimed)


def is_pair_difference(desk, one, other, claimed):
    """Return whether plain steps that leave the same rectangles differ as a `pair` tuple claims."""
    low, high, start = claimed[1:]
    if not is_list(start) or not is_order(desk, start) or low not in start or high not in start:
        return False
    last, order = run_plain(desk, start, one)
    first = places(order)
    second = places(run_plain(desk, start, other)[1])
    return last.overlap(low, high) and first[low] < first[high] and second[high] < second[low]


def idle(desk, steps):
    """Return the ascending list of the indexes of the idle steps of a script of plain steps."""
    check_plain_script(desk, steps)
    needed = needed_places(desk, steps) + needed_moves(last_desk(desk, steps), steps)
    return [at for at in range(len(steps)) if at not in needed]


def needed_places(desk, steps):
    """Return the indexes of the place steps that are not idle."""
    found = []
    for name in desk.names():
        at = [index for index, step in enumerate(steps) if step[0] == "place" and step[1] == name]
        rectangles = [desk.rectangle(name)] + [steps[index][2] for index in at]
        # Only the last place step of a window decides, and only if the window would be elsewhere without it.
        if at and rectangles[-1] != rectangles[-2]:
            found.append(at[-1])
    return found


def needed_moves(desk, steps):
    """Return the indexes of the raise and lower steps that are not idle, on the desk after the script."""
    found = []
    for one, other in desk.pairs():
        at = partings(steps, one, other)
        over = [puts_over(steps[index], one) for index in at]
        # Without its last parting step a pair stands as the step before put it, or as at the start.
        if over[-1:] != over[-2:-1]:
            found.append(at[-1])
    return found
