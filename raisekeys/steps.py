"""Steps and scripts: their sizes, their depths and what makes them right on a desk."""

from raisekeys.errors import BadStep, TooLong
from raisekeys.rects import is_rectangle

MOST_SIZE = 400
MOST_DEPTH = 6
MOST_COUNT = 10 ** 18
MOVES = ("raise", "lower")


def is_list(value):
    """Return whether a value may stand where a list is expected."""
    return isinstance(value, (list, tuple))


def begins_with(step, words):
    """Return whether a value is a tuple that begins with one of these words."""
    return isinstance(step, tuple) and len(step) > 0 and step[0] in words


def is_repeat(step):
    """Return whether a value is a `repeat` tuple, right or wrong."""
    return begins_with(step, ("repeat",))


def has_nested_script(step):
    """Return whether a `repeat` tuple has a nested script, be its steps right or wrong."""
    if len(step) != 3 or not is_list(step[2]):
        return False
    return all([isinstance(item, tuple) and len(item) > 0 for item in step[2]])


def inner_steps(step):
    """Return the steps of the nested script of a `repeat` tuple, or no steps if it has none."""
    return list(step[2]) if has_nested_script(step) else []


def levels(steps):
    """Return the steps of a script, then those of its nested scripts, then those nested in these, and so on."""
    found = [list(steps)]
    while True:
        repeats = [step for step in found[-1] if is_repeat(step)]
        if not repeats:
            return found
        # A level without steps counts too: an empty nested script makes a script deeper.
        found.append([inner for step in repeats for inner in inner_steps(step)])


def script_size(steps):
    """Return the number of the steps of a script, with those of nested scripts."""
    return sum([len(level) for level in levels(steps)])


def check_length(steps):
    """Raise TooLong if a script has too many steps or is too deep."""
    if script_size(steps) > MOST_SIZE or len(levels(steps)) > MOST_DEPTH:
        raise TooLong()


def check_script(desk, steps):
    """Raise TooLong, or BadStep for the first step of a script that is not a step of the desk."""
    check_length(steps)
    refuse_first_wrong([is_step(desk, step) for step in steps])


def check_plain_script(desk, steps):
    """Raise TooLong, or BadStep for the first step of a script that is not a plain step of the desk."""
    check_length(steps)
    refuse_first_wrong([is_plain_step(desk, step) for step in steps])


def refuse_first_wrong(verdicts):
    """Raise BadStep with the index of the first step that was found wrong."""
    if False in verdicts:
        raise BadStep(verdicts.index(False))


def is_step(desk, step):
    """Return whether a value is a step of the desk."""
    return is_right_repeat(desk, step) if is_repeat(step) else is_plain_step(desk, step)


def is_right_repeat(desk, step):
    """Return whether a `repeat` tuple has a right count and a nested script of steps of the desk."""
    if not has_nested_script(step) or not isinstance(step[1], int):
        return False
    return 0 <= step[1] <= MOST_COUNT and all([is_step(desk, inner) for inner in step[2]])


def is_plain_step(desk, step):
    """Return whether a value is a raise, lower or place step of the desk."""
    if begins_with(step, MOVES):
        return len(step) == 2 and are_windows(desk, step[1])
    if begins_with(step, ("place",)):
        return len(step) == 3 and step[1] in desk.names() and is_rectangle(step[2])
    return False


def are_windows(desk, names):
    """Return whether a value is a list of different windows of the desk, at least one."""
    if not is_list(names) or len(names) == 0:
        return False
    known = desk.names()
    return all([name in known for name in names]) and len(set(names)) == len(names)


def fresh_step(step):
    """Return a plain step with a new list for its names."""
    if begins_with(step, MOVES) and len(step) == 2 and is_list(step[1]):
        return (step[0], list(step[1]))
    return step


def flat(steps):
    """Return the plain steps of a script, those of a nested script once, or not at all if its count is 0."""
    found = []
    for step in steps:
        if not is_repeat(step):
            found.append(fresh_step(step))
        elif step[1:2] != (0,):
            found.extend(flat(inner_steps(step)))
    return found
