"""What the tests share: checked calls, all orders, drawn desks and scripts."""

import copy
import itertools
import unittest

from raisekeys.desks import Desk
from raisekeys.logs import Log

LETTERS = "abcdefghijklmnopqrstuvwxyz"
USERS = ("ann", "bob", "z")


def spoil(value):
    """Change every list and dict of a returned value, also inside tuples."""
    if isinstance(value, (list, tuple)):
        for item in value:
            spoil(item)
    if isinstance(value, list):
        value.reverse()
        value.append("spoiled")
    if isinstance(value, dict):
        value["spoiled"] = True


class Case(unittest.TestCase):
    def answer(self, function, *given, **named):
        """What a call returns. Arguments stay as they are, and a second call answers as the first one did."""
        before = copy.deepcopy((given, named))
        found = function(*given, **named)
        kept = copy.deepcopy(found)
        spoil(found)
        self.assertEqual((given, named), before, "an argument was changed, or is a part of the result")
        self.assertEqual(function(*given, **named), kept, "the second call answers differently")
        return kept

    def refused(self, error, attributes, function, *given, **named):
        """A call raises this very error with these attributes, and no argument is changed."""
        before = copy.deepcopy((given, named))
        with self.assertRaises(error) as caught:
            function(*given, **named)
        self.assertIs(type(caught.exception), error)
        self.assertEqual(vars(caught.exception), {"word": error.__name__, **attributes})
        self.assertEqual((given, named), before)


def all_orders(names):
    """All orders of some windows, in ascending order of lists."""
    return [list(order) for order in itertools.permutations(sorted(names))]


def shows(order, wish):
    """Whether an order keeps a wish, by the words of [12]."""
    return all(order.index(high) > order.index(low) for low, high in wish)


def drawn_rectangle(source, span):
    left, top = source.randrange(-span // 2, span // 2), source.randrange(-span // 2, span // 2)
    return left, top, left + source.randint(1, span), top + source.randint(1, span)


def drawn_desk(source, count, span=6):
    """A desk of so many windows, whose names are not drawn in ascending order."""
    names = source.sample(LETTERS, count)
    return Desk({name: drawn_rectangle(source, span) for name in names})


def drawn_order(source, desk):
    return source.sample(desk.names(), len(desk))


def drawn_wish(source, order, count):
    """So many pairs that the order keeps, in any sequence; some may be there twice."""
    found = []
    for number in range(count):
        low, high = sorted(source.sample(range(len(order)), 2))
        found.append((order[low], order[high]))
    return found


def row_of(count):
    """A desk of windows in a row, of which each one overlaps the next."""
    return Desk({LETTERS[at]: (2 * at, 0, 2 * at + 3, 2) for at in range(count)})


def pile_of(count):
    """A desk of windows that all overlap each other."""
    return Desk({LETTERS[at]: (at, at, at + 50, at + 50) for at in range(count)})


def drawn_step(source, desk, span=6):
    """A plain step of the desk, its names sometimes as a tuple."""
    word = source.choice(("raise", "lower", "raise", "lower", "place"))
    if word == "place":
        return word, source.choice(desk.names()), drawn_rectangle(source, span)
    return word, source.choice((list, tuple))(source.sample(desk.names(), source.randint(1, len(desk))))


def drawn_steps(source, desk, most):
    """A script of plain steps, at most so many."""
    return [drawn_step(source, desk) for number in range(source.randint(0, most))]


def drawn_script(source, desk, depth, most=3):
    """A script that is at most so deep, each script in it with at most so many steps."""
    found = []
    for step in drawn_steps(source, desk, most):
        if depth > 1 and source.random() < 0.4:
            step = ("repeat", source.choice((0, 1, 2, 3)), drawn_script(source, desk, depth - 1, most))
        found.append(step)
    return found


def naive_run(desk, order, steps):
    """The desk and the order after a script, by the words of [6], with each repeat run as often as it says."""
    for step in steps:
        if step[0] == "repeat":
            for number in range(step[1]):
                desk, order = naive_run(desk, order, step[2])
        elif step[0] == "place":
            desk = desk.placed(step[1], step[2])
        else:
            apart = ([name for name in order if name not in step[1]], [name for name in order if name in step[1]])
            order = apart[0] + apart[1] if step[0] == "raise" else apart[1] + apart[0]
    return desk, list(order)


def drawn_rows(source, desk, count, numbers=30):
    """So many tuples (stamp, step, struck) with different stamps, in drawn sequence."""
    stamps = source.sample(list(itertools.product(range(numbers), USERS)), count)
    return [(stamp, drawn_step(source, desk), source.random() < 0.3) for stamp in stamps]


def made_log(rows, desk, order):
    """A log with these tuples (stamp, step, struck), added in this sequence."""
    log = Log(desk, order)
    for stamp, step, struck in rows:
        log.add(stamp, step)
        if struck:
            log.strike(stamp)
    return log


def drawn_log(source, desk, order, count):
    """A log with so many entries."""
    return made_log(drawn_rows(source, desk, count), desk, order)


def scripts_are_alike(desk, one, other):
    """Whether two scripts are alike, by the words of [8], tried from every order."""
    for order in all_orders(desk.names()):
        first, second = naive_run(desk, order, one), naive_run(desk, order, other)
        if first[0] != second[0] or not are_alike(first[0], first[1], second[1]):
            return False
    return True


def are_alike(desk, one, other):
    """Whether two orders are alike, by the words of [5]."""
    return all((one.index(low) < one.index(high)) == (other.index(low) < other.index(high))
               for low, high in itertools.combinations(desk.names(), 2) if desk.overlap(low, high))
