"""Texts: how numbers, steps and plain scripts are written, and how they are read."""

from raisekeys.desks import is_name
from raisekeys.errors import BadText
from raisekeys.rects import is_rectangle
from raisekeys.steps import MOVES

DIGITS = "0123456789"
MOST_DIGITS = 30


def read_number(word):
    """Return the number that a word writes, or None if it is not written as numbers are."""
    digits = word[1:] if word.startswith("-") else word
    if not 1 <= len(digits) <= MOST_DIGITS or not all([digit in DIGITS for digit in digits]):
        return None
    number = int(word)
    # A number is written in one way only, which leaves out leading zeros and -0.
    return number if str(number) == word else None


def read_stamp(words):
    """Return the stamp that two words write, or None. Its user may be any word."""
    if len(words) != 2:
        return None
    number = read_number(words[0])
    return None if number is None else (number, words[1])


def format_placement(name, rectangle):
    """Return the text of a window and its rectangle."""
    left, top, right, bottom = rectangle
    return f"{name} {left} {top} {right} {bottom}"


def read_placement(words):
    """Return the tuple (name, rectangle) that words write, or None."""
    rectangle = tuple([read_number(word) for word in words[1:]])
    # A word that is no number is None in the tuple, which then is no rectangle.
    if not words or not is_name(words[0]) or not is_rectangle(rectangle):
        return None
    return (words[0], rectangle)


def format_step(step):
    """Return the text of a plain step."""
    if step[0] == "place":
        return f"place {format_placement(step[1], step[2])}"
    return " ".join([step[0], *step[1]])


def read_step(words):
    """Return the plain step that words write, or None."""
    if not words:
        return None
    word, *rest = words
    if word in MOVES and are_different_names(rest):
        return (word, rest)
    placement = read_placement(rest) if word == "place" else None
    return None if placement is None else ("place", placement[0], placement[1])


def are_different_names(words):
    """Return whether words are different names, at least one."""
    return len(words) > 0 and all([is_name(word) for word in words]) and len(set(words)) == len(words)


def parse_step(text):
    """Return the plain step of a text."""
    step = read_step(text.split(" "))
    if step is None:
        raise BadText(0)
    return step


def format_script(steps):
    """Return the text of a plain script."""
    return "".join([f"{format_step(step)}\n" for step in steps])


def parse_script(text):
    """Return the plain script of a text."""
    *rows, rest = text.split("\n")
    steps = [read_step(row.split(" ")) for row in rows]
    if None in steps:
        raise BadText(steps.index(None))
    if rest != "":
        raise BadText(len(rows))
    return steps
