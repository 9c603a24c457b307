"""[12] and [13] Wishes, the orders that keep them, and rings."""

import itertools
import random
import unittest

from helpers import LETTERS, Case, all_orders, drawn_wish, shows
from raisekeys.errors import BadWish, Impossible
from raisekeys.wishes import is_ring, keeps, least_keeping, ring

EVERY = {
    "ring": ring,
    "is_ring": lambda names, wish: is_ring(names, wish, ["a", "b"]),
    "keeps": keeps,
    "least_keeping": least_keeping,
}


def small_wishes(names):
    """All wishes with up to three different pairs, and some drawn longer ones."""
    pairs = list(itertools.permutations(names, 2))
    for count in range(4):
        yield from (list(wish) for wish in itertools.permutations(pairs, count) if count < 3 or len(names) < 4)
    source = random.Random(12)
    for count in range(60):
        yield [source.choice(pairs) for number in range(source.randint(3, 9))] if pairs else []


def is_a_ring(wish, found):
    """Whether a list is a ring, by the words of [13]."""
    follows = list(zip(found, list(found[1:]) + list(found[:1])))
    return len(found) >= 2 and len(set(found)) == len(found) and all(pair in wish for pair in follows)


class SmallWishes(Case):
    def test_each_wish_of_up_to_four_windows(self):
        for names in ([], ["a"], ["b", "a"], ["c", "a", "b"], ["d", "b", "a", "c"]):
            orders = all_orders(names)
            for wish in small_wishes(names):
                right = [order for order in orders if shows(order, wish)]
                found = ring(names, wish)
                self.assertEqual(found is None, bool(right), wish)
                if right:
                    self.assertEqual(least_keeping(names, wish), right[0], wish)
                else:
                    self.assertTrue(is_a_ring(wish, found), (wish, found))
                    self.assertIs(is_ring(names, wish, found), True)
                    with self.assertRaises(Impossible):
                        least_keeping(names, wish)

    def test_keeps_for_all_orders(self):
        for names in ([], ["a"], ["b", "a"], ["c", "a", "b"]):
            for order in all_orders(names):
                for wish in small_wishes(names):
                    self.assertIs(keeps(order, wish), shows(order, wish), (order, wish))
        source = random.Random(3)
        for order in all_orders("abcde"):
            wish = drawn_wish(source, source.sample("abcde", 5), source.randint(1, 3))
            self.assertIs(keeps(order, wish), shows(order, wish), (order, wish))

    def test_is_ring_for_every_short_list(self):
        wish = [("a", "b"), ("b", "a"), ("b", "c"), ("c", "a"), ("b", "a")]
        for length in range(5):
            for claimed in itertools.product("abcx", repeat=length):
                self.assertIs(is_ring(["c", "a", "b"], wish, list(claimed)), is_a_ring(wish, claimed), claimed)

    def test_no_windows_and_an_empty_wish(self):
        self.assertIsNone(self.answer(ring, [], []))
        self.assertIs(self.answer(keeps, [], []), True)
        self.assertEqual(self.answer(least_keeping, [], []), [])
        self.assertIs(self.answer(is_ring, [], [], []), False)
        self.assertEqual(self.answer(least_keeping, ["b", "c", "a"], []), ["a", "b", "c"])

    def test_duplicate_pairs(self):
        wish = [("b", "a"), ("b", "a"), ("c", "b"), ("b", "a")]
        self.assertIsNone(self.answer(ring, ["a", "b", "c"], wish))
        self.assertIs(self.answer(keeps, ["c", "b", "a"], wish), True)
        self.assertEqual(self.answer(least_keeping, ["a", "b", "c"], wish), ["c", "b", "a"])
        self.assertEqual(sorted(self.answer(ring, ["a", "b"], [("b", "a"), ("a", "b"), ("b", "a")])), ["a", "b"])

    def test_windows_may_be_any_texts(self):
        names = ["Z z", "", "a\n", "long window"]
        self.assertEqual(self.answer(least_keeping, names, [("long window", "")]), ["Z z", "a\n", "long window", ""])
        self.assertEqual(sorted(self.answer(ring, names, [("", "Z z"), ("Z z", "")])), ["", "Z z"])

    def test_windows_over_a_ring_and_below_it_are_no_part_of_it(self):
        wish = [("a", "b"), ("b", "c"), ("c", "d"), ("d", "b"), ("d", "e"), ("e", "f")]
        found = self.answer(ring, list("abcdef"), wish)
        self.assertEqual(sorted(found), ["b", "c", "d"])
        self.assertTrue(is_a_ring(wish, found))
        self.refused(Impossible, {}, least_keeping, list("fedcba"), wish)


class LargeWishes(Case):
    def test_up_to_24_windows_and_60_pairs_that_an_order_keeps(self):
        source = random.Random(24)
        for count in (2, 5, 12, 23, 24, 24, 24, 24):
            order = source.sample(LETTERS, count)
            wish = drawn_wish(source, order, 60)
            names = source.sample(order, count)
            self.assertIsNone(self.answer(ring, names, wish))
            self.assertIs(self.answer(keeps, order, wish), True)
            self.check_least(self.answer(least_keeping, names, wish), names, wish)

    def check_least(self, found, names, wish):
        """At each place stands the first one of all windows that can stand there."""
        self.assertEqual(sorted(found), sorted(names))
        self.assertTrue(shows(found, wish))
        for at, name in enumerate(found):
            for smaller in [other for other in found[at:] if other < name]:
                self.assertTrue([low for low, high in wish if high == smaller and low in found[at:]], (found, smaller))

    def test_up_to_24_windows_and_60_pairs_with_a_ring(self):
        source = random.Random(60)
        for count in (2, 3, 9, 24, 24):
            order = source.sample(LETTERS, count)
            wish = drawn_wish(source, order, 59 - count)
            members = source.sample(order, source.randint(2, count))
            wish.extend(zip(members, members[1:] + members[:1]))
            source.shuffle(wish)
            found = self.answer(ring, order, wish)
            self.assertTrue(is_a_ring(wish, found), (wish, found))
            self.assertIs(keeps(order, wish), False)
            self.refused(Impossible, {}, least_keeping, order, wish)

    def test_one_ring_of_400_windows(self):
        names = [f"w{number:03}" for number in range(400)]
        wish = list(zip(names, names[1:]))
        self.assertIsNone(ring(names, wish))
        self.assertEqual(least_keeping(names[::-1], wish), names)
        wish.append((names[-1], names[0]))
        found = ring(names, wish)
        self.assertEqual(sorted(found), names)
        self.assertTrue(is_a_ring(wish, found))


class Claims(Case):
    NAMES = ["a", "b", "c", "d"]
    WISH = [("a", "b"), ("b", "c"), ("c", "a"), ("c", "d")]

    def check(self, claimed, expected):
        self.assertIs(self.answer(is_ring, self.NAMES, self.WISH, claimed), expected, claimed)
        self.assertIs(self.answer(is_ring, tuple(self.NAMES), tuple(self.WISH), tuple(claimed)), expected, claimed)

    def test_returned_and_turned(self):
        found = ring(self.NAMES, self.WISH)
        for turn in range(3):
            self.check(found[turn:] + found[:turn], True)

    def test_reversed(self):
        self.check(["c", "b", "a"], False)

    def test_a_window_removed_doubled_added_or_unknown(self):
        for claimed in (["a", "b"], ["b", "c"], ["c", "a"], ["a", "a", "b", "c"], ["a", "b", "c", "a"],
                        ["a", "b", "c", "a", "b", "c"], ["a", "b", "c", "d"], ["d", "a", "b", "c"],
                        ["a", "b", "x"], ["x", "b", "c"], ["x", "y"]):
            self.check(claimed, False)

    def test_the_empty_list_and_one_window(self):
        self.check([], False)
        for name in ("a", "x"):
            self.check([name], False)
            self.check([name, name], False)

    def test_two_windows(self):
        self.assertIs(is_ring(["a", "b"], [("a", "b"), ("b", "a")], ["b", "a"]), True)
        self.assertIs(is_ring(["a", "b"], [("a", "b")], ["a", "b"]), False)


class Errors(Case):
    def test_the_first_wrong_item_from_every_function(self):
        right = ("a", "b")
        for wrong in (("x", "a"), ("a", "x"), ("x", "y"), ("a", "a"), ("x", "x"), ("", "a"), ("a", "A"), ("ab", "a")):
            for wish, at in (([wrong], 0), ([right, wrong], 1), ([right, right, wrong, right, ("z", "z")], 2)):
                for function in EVERY.values():
                    self.refused(BadWish, {"at": at}, function, ["b", "a"], wish)

    def test_items_that_are_no_pairs(self):
        for wrong in (("a",), ("a", "b", "a"), (), ["a", "b"], ("a", None), ("a", ["b"])):
            for function in EVERY.values():
                self.refused(BadWish, {"at": 1}, function, ["a", "b"], [("a", "b"), wrong])

    def test_without_windows(self):
        for function in EVERY.values():
            self.refused(BadWish, {"at": 0}, function, [], [("a", "b")])

    def test_bad_wish_comes_before_impossible(self):
        self.refused(BadWish, {"at": 2}, least_keeping, ["a", "b"], [("a", "b"), ("b", "a"), ("a", "c")])
        self.refused(Impossible, {}, least_keeping, ["a", "b"], [("a", "b"), ("b", "a")])

    def test_bad_wish_also_for_a_claim_that_is_no_ring(self):
        for claimed in ([], ["a"], ["x", "y"]):
            self.refused(BadWish, {"at": 0}, is_ring, ["a", "b"], [("a", "c")], claimed)


class Arguments(Case):
    NAMES = ["c", "a", "b"]
    WISH = [("b", "a"), ("c", "b"), ("b", "a")]

    def test_by_name(self):
        self.assertIsNone(self.answer(ring, wish=self.WISH, names=self.NAMES))
        self.assertIs(self.answer(is_ring, claimed=["a", "b"], wish=[("a", "b"), ("b", "a")], names=self.NAMES), True)
        self.assertIs(self.answer(keeps, wish=self.WISH, order=["c", "b", "a"]), True)
        self.assertEqual(self.answer(least_keeping, wish=self.WISH, names=self.NAMES), ["c", "b", "a"])

    def test_tuples_in_the_place_of_lists(self):
        wish = (("a", "b"), ("b", "c"), ("c", "a"))
        self.assertEqual(self.answer(ring, tuple(self.NAMES), wish), ring(self.NAMES, list(wish)))
        self.assertIs(type(ring(tuple(self.NAMES), wish)), list)
        self.assertIs(self.answer(keeps, ("c", "b", "a"), tuple(self.WISH)), True)
        self.assertEqual(self.answer(least_keeping, tuple(self.NAMES), tuple(self.WISH)), ["c", "b", "a"])

    def test_returned_lists_are_new(self):
        wish = [("a", "b"), ("b", "a")]
        for names in (["a", "b"], ["b", "a", "c"]):
            self.answer(ring, names, wish)
            self.answer(least_keeping, names, [])
        names = ["a", "b"]
        self.assertIsNot(least_keeping(names, []), names)


if __name__ == "__main__":
    unittest.main()
