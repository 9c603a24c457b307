"""The examples of the document."""

import unittest

from raisekeys.desks import Desk
from raisekeys.errors import BadRectangle
from raisekeys.rects import common, covers


class Examples(unittest.TestCase):
    def test_rects(self):
        found = [common((0, 0, 4, 4), (2, 1, 9, 3)), common((0, 0, 4, 4), (4, 0, 5, 4)), covers((0, 0, 4, 4), 3, 0)]
        self.assertEqual(found, [(2, 1, 4, 3), None, True])

    def test_desk(self):
        desk = Desk({"b": (3, 0, 9, 5), "a": (0, 0, 4, 4), "c": (20, 0, 21, 1)})
        found = [desk.names(), desk.pairs(), len(desk), repr(desk)]
        self.assertEqual(found, [["a", "b", "c"], [("a", "b")], 3, "Desk(3 windows)"])

    def test_desk_with_a_wrong_rectangle(self):
        with self.assertRaises(BadRectangle) as caught:
            Desk({"a": (0, 0, 4, 4), "b": (3, 0, 3, 5)})
        self.assertEqual(caught.exception.name, "b")


if __name__ == "__main__":
    unittest.main()
