"""[11] and [12] What is seen at a cell, tiles, and facts."""

import itertools
import random
import unittest

from helpers import Case, all_orders, drawn_desk, drawn_order, pile_of, shows
from raisekeys.desks import Desk
from raisekeys.errors import BadFact, BadOrder
from raisekeys.rects import covers
from raisekeys.sights import agreeing, demanded, seen, tiles

FAR = 10 ** 29


def cell_by_cell(desk, order, x, y):
    """The window that is seen, by the words of [11]."""
    found = None
    for name in order:
        if covers(desk.rectangle(name), x, y):
            found = name
    return found


def counted_tiles(desk, order):
    """The tiles, put together cell by cell."""
    rectangles = [desk.rectangle(name) for name in order]
    rows = sorted({side for rectangle in rectangles for side in rectangle[1::2]})
    lefts, rights = min(rectangle[0] for rectangle in rectangles), max(rectangle[2] for rectangle in rectangles)
    found = []
    for top, bottom in zip(rows, rows[1:]):
        names = [(cell_by_cell(desk, order, x, top), x) for x in range(lefts, rights)]
        for name, cells in itertools.groupby(names, key=lambda item: item[0]):
            columns = [x for same, x in cells]
            if name is not None:
                found.append(((columns[0], top, columns[-1] + 1, bottom), name))
    return found


class Seen(Case):
    def test_within_on_each_border_and_outside(self):
        desk = Desk({"a": (-3, -2, 4, 5), "b": (0, 0, 2, 2)})
        for x, y in ((-3, -2), (3, 4), (-3, 4), (3, -2), (2, 0), (0, 2), (-1, 0), (0, -1)):
            self.assertEqual(self.answer(seen, desk, ["a", "b"], x, y), "a", (x, y))
        for x, y in ((0, 0), (1, 0), (0, 1), (1, 1)):
            self.assertEqual(self.answer(seen, desk, ["a", "b"], x, y), "b", (x, y))
            self.assertEqual(self.answer(seen, desk, ["b", "a"], x, y), "a", (x, y))
        for x, y in ((-4, 0), (4, 0), (0, -3), (0, 5), (-4, -3), (4, 5), (FAR, 0), (0, -FAR)):
            self.assertIsNone(self.answer(seen, desk, ["a", "b"], x, y), (x, y))

    def test_every_cell_of_drawn_desks(self):
        source = random.Random(11)
        for count in (1, 2, 3, 5, 8, 24):
            desk = drawn_desk(source, count, 5)
            order = drawn_order(source, desk)
            for x, y in itertools.product(range(-7, 12), repeat=2):
                self.assertEqual(seen(desk, order, x, y), cell_by_cell(desk, order, x, y))

    def test_the_top_of_a_pile(self):
        desk = pile_of(24)
        order = drawn_order(random.Random(1), desk)
        self.assertEqual(self.answer(seen, desk, order, 30, 30), order[-1])


class Tiles(Case):
    def check(self, windows, order, expected):
        self.assertEqual(self.answer(tiles, Desk(windows), order), expected)

    def test_one_window(self):
        self.check({"a": (-5, -4, 3, 2)}, ["a"], [((-5, -4, 3, 2), "a")])

    def test_a_window_that_is_split_by_another_one(self):
        windows = {"a": (0, 0, 9, 3), "b": (3, 1, 5, 2)}
        self.check(windows, ["a", "b"], [
            ((0, 0, 9, 1), "a"), ((0, 1, 3, 2), "a"), ((3, 1, 5, 2), "b"), ((5, 1, 9, 2), "a"), ((0, 2, 9, 3), "a")])

    def test_a_window_that_is_hidden_whole_still_divides_the_bands(self):
        windows = {"a": (0, 0, 9, 3), "b": (3, 1, 5, 2)}
        self.check(windows, ["b", "a"], [((0, 0, 9, 1), "a"), ((0, 1, 9, 2), "a"), ((0, 2, 9, 3), "a")])
        self.check({"a": (0, 0, 4, 4), "b": (0, 0, 4, 4)}, ["b", "a"], [((0, 0, 4, 4), "a")])

    def test_equal_tops_and_bottoms(self):
        windows = {"a": (0, 0, 4, 2), "b": (2, 0, 6, 2), "c": (6, 0, 8, 2)}
        self.check(windows, ["a", "b", "c"], [((0, 0, 2, 2), "a"), ((2, 0, 6, 2), "b"), ((6, 0, 8, 2), "c")])
        self.check(windows, ["b", "c", "a"], [((0, 0, 4, 2), "a"), ((4, 0, 6, 2), "b"), ((6, 0, 8, 2), "c")])

    def test_gaps_between_windows(self):
        windows = {"a": (0, 0, 2, 2), "b": (5, 0, 7, 2), "c": (0, 9, 2, 10)}
        self.check(windows, ["c", "b", "a"], [((0, 0, 2, 2), "a"), ((5, 0, 7, 2), "b"), ((0, 9, 2, 10), "c")])

    def test_a_window_in_a_far_band_divides_no_band_elsewhere_from_left_to_right(self):
        windows = {"a": (0, 0, 9, 2), "b": (3, 5, 4, 6)}
        self.check(windows, ["a", "b"], [((0, 0, 9, 2), "a"), ((3, 5, 4, 6), "b")])

    def test_one_window_twice_in_a_band(self):
        windows = {"a": (0, 0, 9, 1), "b": (2, 0, 4, 1), "c": (4, 0, 5, 1)}
        self.check(windows, ["a", "b", "c"], [
            ((0, 0, 2, 1), "a"), ((2, 0, 4, 1), "b"), ((4, 0, 5, 1), "c"), ((5, 0, 9, 1), "a")])

    def test_large_numbers(self):
        most = 10 ** 9
        windows = {"a": (-most, -most, most, most), "b": (0, 0, most, most)}
        self.check(windows, ["a", "b"], [
            ((-most, -most, most, 0), "a"), ((-most, 0, 0, most), "a"), ((0, 0, most, most), "b")])

    def test_drawn_desks_cell_by_cell(self):
        source = random.Random(111)
        for number in range(150):
            desk = drawn_desk(source, source.choice((1, 2, 3, 4, 6, 10, 24)), source.choice((3, 6, 12)))
            order = drawn_order(source, desk)
            found = tiles(desk, order)
            self.assertEqual(found, counted_tiles(desk, order))
            corners = [(rectangle[1], rectangle[0]) for rectangle, name in found]
            self.assertEqual(corners, sorted(set(corners)))
        self.answer(tiles, desk, order)


class Facts(Case):
    DESK = Desk({"a": (0, 0, 3, 1), "b": (1, 0, 5, 2), "c": (1, 0, 2, 1)})

    def check(self, facts, wrong, pairs=None):
        self.assertEqual(self.answer(agreeing, self.DESK, facts), wrong)
        if wrong is None:
            self.assertEqual(self.answer(demanded, self.DESK, facts), pairs)
        else:
            self.refused(BadFact, {"at": wrong}, demanded, self.DESK, facts)

    def test_facts_that_agree(self):
        self.check([], None, [])
        self.check([(0, 0, "a")], None, [])
        self.check([(2, 0, "a")], None, [("b", "a")])
        self.check([(1, 0, "c")], None, [("a", "c"), ("b", "c")])
        self.check([(2, 0, "b"), (1, 0, "b")], None, [("a", "b"), ("c", "b")])

    def test_none(self):
        self.check([(9, 9, None), (-1, 0, None), (5, 0, None), (0, 1, None), (-FAR, FAR, None)], None, [])
        self.check([(9, 9, None), (0, 0, None)], 1)
        self.check([(4, 1, None)], 0)

    def test_a_window_that_does_not_cover_the_cell(self):
        self.check([(3, 0, "a")], 0)
        self.check([(0, 0, "a"), (9, 9, "a")], 1)
        self.check([(0, 0, "a"), (0, 0, "b"), (0, 0, "c")], 1)

    def test_a_text_that_is_no_window_of_the_desk(self):
        for text in ("x", "", "A", "ab", "a window\n", "None"):
            self.check([(0, 0, "a"), (0, 0, text)], 1)
            self.check([(9, 9, text)], 0)

    def test_the_same_fact_twice(self):
        self.check([(1, 0, "a"), (2, 0, "a"), (1, 0, "a")], None, [("b", "a"), ("c", "a")])

    def test_facts_that_agree_but_that_no_order_shows(self):
        self.check([(1, 0, "b"), (1, 0, "a")], None, [("a", "b"), ("b", "a"), ("c", "a"), ("c", "b")])

    def test_the_first_wrong_fact(self):
        self.check([(0, 0, "a"), (9, 9, None), (0, 0, None), (0, 0, "b"), (9, 9, "x")], 2)

    def test_an_order_shows_facts_that_agree_exactly_if_it_keeps_the_demanded_wish(self):
        source = random.Random(1212)
        for number in range(150):
            desk = drawn_desk(source, source.randint(1, 4), 3)
            facts = [(source.randint(-3, 4), source.randint(-3, 4), source.choice((*desk.names(), None)))
                     for count in range(source.randint(0, 4))]
            wrong = agreeing(desk, facts)
            shown = [order for order in all_orders(desk.names())
                     if all(cell_by_cell(desk, order, x, y) == name for x, y, name in facts)]
            if wrong is not None:
                self.assertEqual(shown, [])
                self.assertIsNone(agreeing(desk, facts[:wrong]))
                self.refused(BadFact, {"at": wrong}, demanded, desk, facts)
                continue
            wish = demanded(desk, facts)
            self.assertEqual(wish, sorted(set(wish)))
            self.assertEqual(shown, [order for order in all_orders(desk.names()) if shows(order, wish)])


class Errors(Case):
    def test_bad_order(self):
        desk = Desk({"a": (0, 0, 2, 2), "b": (1, 0, 3, 2)})
        for wrong in ([], ["a"], ["a", "a"], ["a", "x"], ["x", "b"], ["a", "b", "b"], ["a", "b", "x"], ("b",)):
            self.refused(BadOrder, {}, seen, desk, wrong, 1, 1)
            self.refused(BadOrder, {}, seen, desk, wrong, 9, 9)
            self.refused(BadOrder, {}, tiles, desk, wrong)


class Arguments(Case):
    DESK = Desk({"a": (0, 0, 2, 2), "b": (1, 0, 3, 2)})

    def test_by_name(self):
        self.assertEqual(self.answer(seen, y=1, x=0, order=["b", "a"], desk=self.DESK), "a")
        self.assertIsNone(self.answer(seen, self.DESK, ["b", "a"], y=2, x=0))
        self.assertEqual(self.answer(tiles, order=["b", "a"], desk=self.DESK), [((0, 0, 2, 2), "a"), ((2, 0, 3, 2), "b")])
        self.assertIsNone(self.answer(agreeing, facts=[(1, 0, "b")], desk=self.DESK))
        self.assertEqual(self.answer(demanded, facts=[(1, 0, "b")], desk=self.DESK), [("a", "b")])

    def test_tuples_in_the_place_of_lists(self):
        self.assertEqual(self.answer(seen, self.DESK, ("a", "b"), 1, 1), "b")
        self.assertEqual(self.answer(tiles, self.DESK, ("b", "a")), tiles(self.DESK, ["b", "a"]))
        self.assertEqual(self.answer(agreeing, self.DESK, ((1, 0, "b"), (0, 0, "b"))), 1)
        self.assertEqual(self.answer(demanded, self.DESK, ((1, 0, "b"),)), [("a", "b")])


if __name__ == "__main__":
    unittest.main()
