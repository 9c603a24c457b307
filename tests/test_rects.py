"""[3] Rectangles and the cells that they cover."""

import itertools
import unittest

from raisekeys.rects import MOST_COORDINATE, common, covers, is_rectangle

BOUND = 10 ** 9
SMALL = range(-2, 3)


def small_rectangles():
    spans = list(itertools.combinations(SMALL, 2))
    return [(left, top, right, bottom) for left, right in spans for top, bottom in spans]


def cells(rectangle):
    left, top, right, bottom = rectangle
    return {(x, y) for x in range(left, right) for y in range(top, bottom)}


class Constant(unittest.TestCase):
    def test_most_coordinate(self):
        self.assertEqual(MOST_COORDINATE, 1000000000)
        self.assertIs(type(MOST_COORDINATE), int)


class IsRectangle(unittest.TestCase):
    def test_right_rectangles(self):
        for rectangle in ((0, 0, 4, 4), (0, 0, 1, 1), (-5, -7, -4, 9), (3, -2, 100, -1)):
            self.assertIs(is_rectangle(rectangle), True, rectangle)

    def test_sides_exchanged_or_equal(self):
        for rectangle in ((4, 0, 0, 4), (0, 4, 4, 0), (4, 4, 0, 0), (3, 0, 3, 5), (0, 5, 3, 5), (1, 1, 1, 1)):
            self.assertIs(is_rectangle(rectangle), False, rectangle)

    def test_at_the_bounds_and_one_beyond(self):
        right = (-BOUND, -BOUND, BOUND, BOUND)
        self.assertIs(is_rectangle(right), True)
        for at, beyond in enumerate((-BOUND - 1, -BOUND - 1, BOUND + 1, BOUND + 1)):
            wrong = right[:at] + (beyond,) + right[at + 1:]
            self.assertIs(is_rectangle(wrong), False, wrong)

    def test_each_side_at_the_opposite_bound(self):
        for right in ((BOUND - 1, 0, BOUND, 1), (0, BOUND - 1, 1, BOUND),
                      (-BOUND, 0, 1 - BOUND, 1), (0, -BOUND, 1, 1 - BOUND)):
            self.assertIs(is_rectangle(right), True, right)
        for wrong in ((BOUND + 1, 0, BOUND + 2, 1), (0, BOUND + 1, 1, BOUND + 2),
                      (-BOUND - 2, 0, -BOUND - 1, 1), (0, -BOUND - 2, 1, -BOUND - 1),
                      (0, 0, 1, 10 ** 30), (-10 ** 30, 0, 1, 1)):
            self.assertIs(is_rectangle(wrong), False, wrong)

    def test_what_is_not_a_tuple_of_four_numbers(self):
        for wrong in ((), (0, 0, 4), (0, 0, 4, 4, 4), [0, 0, 4, 4], (0, 0, 4, "e"), "abcd"):
            self.assertIs(is_rectangle(wrong), False, wrong)

    def test_every_small_tuple(self):
        for sides in itertools.product(SMALL, repeat=4):
            self.assertIs(is_rectangle(sides), bool(cells(sides)), sides)

    def test_by_name(self):
        self.assertIs(is_rectangle(rectangle=(0, 0, 4, 4)), True)


class Covers(unittest.TestCase):
    def test_inside(self):
        self.assertIs(covers((0, 0, 4, 4), 2, 1), True)

    def test_left_and_top_are_covered_and_right_and_bottom_are_not(self):
        rectangle = (-3, -2, 4, 5)
        for x, y in ((-3, 0), (0, -2), (3, 0), (0, 4), (-3, -2), (3, 4), (-3, 4), (3, -2)):
            self.assertIs(covers(rectangle, x, y), True, (x, y))
        for x, y in ((-4, 0), (0, -3), (4, 0), (0, 5), (-4, -3), (4, 5), (-3, 5), (4, -2)):
            self.assertIs(covers(rectangle, x, y), False, (x, y))

    def test_all_negative(self):
        self.assertIs(covers((-9, -9, -5, -7), -6, -8), True)
        self.assertIs(covers((-9, -9, -5, -7), -5, -8), False)
        self.assertIs(covers((-9, -9, -5, -7), 6, 8), False)

    def test_far_outside(self):
        self.assertIs(covers((0, 0, 4, 4), 10 ** 29, 0), False)
        self.assertIs(covers((0, 0, 4, 4), 0, -10 ** 29), False)

    def test_every_small_cell(self):
        for rectangle in small_rectangles():
            expected = cells(rectangle)
            for x, y in itertools.product(range(-3, 4), repeat=2):
                self.assertIs(covers(rectangle, x, y), (x, y) in expected, (rectangle, x, y))

    def test_by_name(self):
        self.assertIs(covers(y=0, x=3, rectangle=(0, 0, 4, 4)), True)
        self.assertIs(covers((0, 0, 4, 2), y=3, x=0), False)


class Common(unittest.TestCase):
    def check(self, one, other, expected):
        self.assertEqual(common(one, other), expected)
        self.assertEqual(common(other, one), expected)

    def test_shared_cells(self):
        self.check((0, 0, 4, 4), (2, 1, 9, 3), (2, 1, 4, 3))
        self.check((-4, -4, 1, 1), (0, 0, 4, 4), (0, 0, 1, 1))
        self.check((0, 5, 9, 6), (3, 0, 4, 9), (3, 5, 4, 6))

    def test_touching_at_a_side(self):
        self.check((0, 0, 4, 4), (4, 0, 5, 4), None)
        self.check((0, 0, 4, 4), (0, 4, 4, 5), None)

    def test_touching_at_a_corner(self):
        self.check((0, 0, 4, 4), (4, 4, 5, 5), None)
        self.check((0, 0, 4, 4), (4, -1, 5, 0), None)

    def test_containing_each_other(self):
        self.check((0, 0, 9, 9), (2, 3, 4, 5), (2, 3, 4, 5))
        self.check((0, 0, 9, 9), (0, 0, 9, 9), (0, 0, 9, 9))

    def test_apart(self):
        self.check((0, 0, 4, 4), (20, 0, 21, 4), None)
        self.check((0, 0, 4, 4), (0, 20, 4, 21), None)
        self.check((0, 0, 4, 4), (-9, -9, -8, -8), None)

    def test_every_two_small_rectangles(self):
        for one, other in itertools.product(small_rectangles(), repeat=2):
            shared = cells(one) & cells(other)
            found = common(one, other)
            if shared:
                self.assertIs(type(found), tuple)
                self.assertEqual(cells(found), shared, (one, other))
            else:
                self.assertIsNone(found, (one, other))

    def test_by_name(self):
        self.assertEqual(common(other=(2, 1, 9, 3), one=(0, 0, 4, 4)), (2, 1, 4, 3))


if __name__ == "__main__":
    unittest.main()
