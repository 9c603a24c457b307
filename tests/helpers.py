"""What the tests share: checked calls, all orders, drawn desks and scripts."""

import copy
import itertools
import unittest

from raisekeys.desks import Desk

LETTERS = "abcdefghijklmnopqrstuvwxyz"


def spoil(value):
    """Change every list and dict of a returned value, also inside tuples."""
    if isinstance(value, (list, tuple)):
        for item in value:
            spoil(item)
    if isinstance(value, list):
        value.reverse()
        value.append("spoiled")
    if isinstance(value, dict):
        value["spoiled"] = True


class Case(unittest.TestCase):
    def answer(self, function, *given, **named):
        """What a call returns. Arguments stay as they are, and a second call answers as the first one did."""
        before = copy.deepcopy((given, named))
        found = function(*given, **named)
        kept = copy.deepcopy(found)
        spoil(found)
        self.assertEqual((given, named), before, "an argument was changed, or is a part of the result")
        self.assertEqual(function(*given, **named), kept, "the second call answers differently")
        return kept

    def refused(self, error, attributes, function, *given, **named):
        """A call raises this very error with these attributes, and no argument is changed."""
        before = copy.deepcopy((given, named))
        with self.assertRaises(error) as caught:
            function(*given, **named)
        self.assertIs(type(caught.exception), error)
        self.assertEqual(vars(caught.exception), {"word": error.__name__, **attributes})
        self.assertEqual((given, named), before)


def all_orders(names):
    """All orders of some windows, in ascending order of lists."""
    return [list(order) for order in itertools.permutations(sorted(names))]


def shows(order, wish):
    """Whether an order keeps a wish, by the words of [12]."""
    return all(order.index(high) > order.index(low) for low, high in wish)


def drawn_rectangle(source, span):
    left, top = source.randrange(-span, span), source.randrange(-span, span)
    return left, top, left + source.randint(1, span), top + source.randint(1, span)


def drawn_desk(source, count, span=6):
    """A desk of so many windows, whose names are not drawn in ascending order."""
    names = source.sample(LETTERS, count)
    return Desk({name: drawn_rectangle(source, span) for name in names})


def drawn_order(source, desk):
    return source.sample(desk.names(), len(desk))


def drawn_wish(source, order, count):
    """So many pairs that the order keeps, in any sequence; some may be there twice."""
    found = []
    for number in range(count):
        low, high = sorted(source.sample(range(len(order)), 2))
        found.append((order[low], order[high]))
    return found


def row_of(count):
    """A desk of windows in a row, of which each one overlaps the next."""
    return Desk({LETTERS[at]: (2 * at, 0, 2 * at + 3, 2) for at in range(count)})


def pile_of(count):
    """A desk of windows that all overlap each other."""
    return Desk({LETTERS[at]: (at, at, at + 50, at + 50) for at in range(count)})
