"""[5] Orders, alike orders and the least order."""

import itertools
import random
import unittest

from helpers import Case, all_orders, are_alike, drawn_desk, drawn_order, pile_of, row_of
from raisekeys.desks import Desk
from raisekeys.errors import BadOrder
from raisekeys.orders import alike, least_order, wish_of


def four():
    """a overlaps b and d, b overlaps d; c overlaps nothing."""
    return Desk({"d": (3, 3, 9, 9), "b": (3, 0, 9, 5), "a": (0, 0, 4, 4), "c": (20, 0, 21, 1)})


def exchanged(order, at):
    """The order with the window at this index and the next one exchanged."""
    return order[:at] + [order[at + 1], order[at]] + order[at + 2:]


def small_desks():
    source = random.Random(5)
    yield four()
    for count in (1, 2, 3, 4):
        yield row_of(count)
        yield pile_of(count)
        for number in range(6):
            yield drawn_desk(source, count, 4)


class Alike(Case):
    def test_all_orders_of_small_desks(self):
        for desk in small_desks():
            for one, other in itertools.product(all_orders(desk.names()), repeat=2):
                expected = are_alike(desk, one, other)
                self.assertIs(alike(desk, one, other), expected, (one, other))
                self.assertIs(wish_of(desk, one) == wish_of(desk, other), expected, (one, other))

    def test_neighbours_exchanged(self):
        desk, order = four(), ["b", "c", "a", "d"]
        self.assertIs(self.answer(alike, desk, order, list(order)), True)
        self.assertIs(self.answer(alike, desk, order, ["c", "b", "a", "d"]), True)
        self.assertIs(self.answer(alike, desk, order, ["b", "a", "c", "d"]), True)
        self.assertIs(self.answer(alike, desk, order, ["b", "c", "d", "a"]), False)

    def test_drawn_orders_of_24_windows(self):
        source = random.Random(55)
        for number in range(10):
            desk = drawn_desk(source, 24, 9)
            order = drawn_order(source, desk)
            self.assertIs(self.answer(alike, desk, order, list(order)), True)
            for at in range(23):
                other = exchanged(order, at)
                self.assertIs(alike(desk, order, other), not desk.overlap(order[at], order[at + 1]))
            other = drawn_order(source, desk)
            self.assertIs(alike(desk, order, other), are_alike(desk, order, other))


class WishOf(Case):
    def test_ascending_pairs_of_overlapping_windows(self):
        desk = four()
        self.assertEqual(self.answer(wish_of, desk, ["a", "b", "c", "d"]), [("a", "b"), ("a", "d"), ("b", "d")])
        self.assertEqual(self.answer(wish_of, desk, ["d", "c", "b", "a"]), [("b", "a"), ("d", "a"), ("d", "b")])
        self.assertEqual(self.answer(wish_of, desk, ["b", "c", "d", "a"]), [("b", "a"), ("b", "d"), ("d", "a")])

    def test_against_the_words_of_the_document(self):
        source = random.Random(6)
        for number in range(20):
            desk = drawn_desk(source, source.randint(1, 24), 9)
            order = drawn_order(source, desk)
            expected = [(low, high) for low, high in itertools.combinations(order, 2) if desk.overlap(low, high)]
            self.assertEqual(self.answer(wish_of, desk, order), sorted(expected))

    def test_windows_that_do_not_overlap(self):
        self.assertEqual(self.answer(wish_of, Desk({"a": (0, 0, 1, 1), "b": (1, 0, 2, 1)}), ["b", "a"]), [])
        self.assertEqual(self.answer(wish_of, Desk({"a": (0, 0, 1, 1)}), ["a"]), [])


class LeastOrder(Case):
    def test_the_first_of_all_alike_orders_of_small_desks(self):
        for desk in small_desks():
            orders = all_orders(desk.names())
            for order in orders:
                first = next(other for other in orders if are_alike(desk, order, other))
                self.assertEqual(least_order(desk, order), first, order)

    def test_24_windows(self):
        source = random.Random(7)
        for number in range(10):
            desk = drawn_desk(source, 24, source.choice((4, 9, 30)))
            order = drawn_order(source, desk)
            found = self.answer(least_order, desk, order)
            self.assertTrue(are_alike(desk, order, found))
            for at in range(23):
                if not desk.overlap(found[at], found[at + 1]):
                    self.assertLess(found, exchanged(found, at))
            self.assertEqual(least_order(desk, found), found)

    def test_24_windows_that_all_overlap_or_none(self):
        pile = pile_of(24)
        order = drawn_order(random.Random(8), pile)
        self.assertEqual(self.answer(least_order, pile, order), order)
        self.assertIsNot(least_order(pile, order), order)
        loose = Desk({name: (3 * at, 0, 3 * at + 1, 1) for at, name in enumerate(pile.names())})
        self.assertEqual(self.answer(least_order, loose, order), sorted(order))


class Errors(Case):
    WRONG = ([], ["a"], ["a", "b"], ["a", "b", "b"], ["a", "b", "c", "c"], ["a", "b", "c", "d"], ["a", "b", "x"],
             ["x", "b", "c"], ["a", "b", "c", "x"], ["a", "a", "a"], ["A", "b", "c"], ["a", "b", ""], ["abc"])

    def test_each_function(self):
        desk = row_of(3)
        right = ["b", "a", "c"]
        for wrong in (*self.WRONG, *map(tuple, self.WRONG)):
            self.refused(BadOrder, {}, wish_of, desk, wrong)
            self.refused(BadOrder, {}, least_order, desk, wrong)
            self.refused(BadOrder, {}, alike, desk, wrong, right)
            self.refused(BadOrder, {}, alike, desk, right, wrong)
            self.refused(BadOrder, {}, alike, desk, wrong, wrong)

    def test_windows_that_do_not_overlap_are_missed_too(self):
        desk = Desk({"a": (0, 0, 1, 1), "b": (5, 0, 6, 1)})
        for wrong in (["a"], ["b"], ["a", "a"], ["a", "b", "c"]):
            self.refused(BadOrder, {}, alike, desk, wrong, ["a", "b"])
            self.refused(BadOrder, {}, alike, desk, ["a", "b"], wrong)
            self.refused(BadOrder, {}, least_order, desk, wrong)


class Arguments(Case):
    def test_by_name(self):
        desk = four()
        self.assertIs(self.answer(alike, other=list("cabd"), one=list("abcd"), desk=desk), True)
        self.assertEqual(self.answer(wish_of, order=list("abcd"), desk=desk), [("a", "b"), ("a", "d"), ("b", "d")])
        self.assertEqual(self.answer(least_order, order=list("dcba"), desk=desk), ["c", "d", "b", "a"])

    def test_tuples_in_the_place_of_lists(self):
        desk = four()
        self.assertIs(self.answer(alike, desk, tuple("cabd"), tuple("abcd")), True)
        self.assertEqual(self.answer(wish_of, desk, tuple("dbca")), wish_of(desk, list("dbca")))
        self.assertEqual(self.answer(least_order, desk, tuple("dcba")), ["c", "d", "b", "a"])


if __name__ == "__main__":
    unittest.main()
