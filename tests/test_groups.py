"""[17] The fewest raise and lower steps of any names, and the chain with the greatest count."""

import inspect
import itertools
import random
import unittest

from helpers import LETTERS, Case, drawn_wish, naive_run, shows
from raisekeys.errors import BadWish
from raisekeys.groups import group_plan, steps_for
from raisekeys.plans import chain_count


def distances(count):
    """The fewest raise and lower steps, of any names, from the order 0, 1, 2, .. to each order, all steps tried."""
    start = tuple(range(count))
    found, reached = {start: 0}, [start]
    groups = [group for size in range(1, count + 1) for group in itertools.combinations(start, size)]
    while reached:
        order = reached.pop(0)
        for step in itertools.product(("raise", "lower"), groups):
            after = tuple(naive_run(None, order, [step])[1])
            if after not in found:
                found[after] = found[order] + 1
                reached.append(after)
    return found


DISTANCES = {count: distances(count) for count in range(6)}


def fewest(order, wish):
    """The fewest steps after which the order keeps the wish, or None if no order does."""
    goals = [goal for goal in itertools.permutations(order) if shows(goal, wish)]
    ways = [DISTANCES[len(order)][tuple(order.index(name) for name in goal)] for goal in goals]
    return min(ways, default=None)


def greatest_count(order, wish):
    """The greatest count of a chain of a wish without a ring, by the words of [15]."""
    best = {name: 0 for name in order}
    for number in order:
        for low, high in wish:
            best[high] = max(best[high], best[low] + (order.index(low) > order.index(high)))
    return max(best.values(), default=0)


class GroupCase(Case):
    def check(self, order, wish):
        """The steps lead to the wish, and the chain has a count that shows that fewer steps do not. Their number."""
        kind, steps, chain = self.answer(group_plan, order, wish)
        self.assertEqual(kind, "steps")
        for step in steps:
            self.assertEqual((type(step), len(step), type(step[1])), (tuple, 2, list))
            self.assertIn(step[0], ("raise", "lower"))
            self.assertTrue(step[1] and set(step[1]) <= set(order) and len(set(step[1])) == len(step[1]), step)
        self.assertTrue(shows(naive_run(None, order, steps)[1], wish), (order, wish, steps))
        self.assertIs(type(chain), list)
        count = chain_count(order, wish, chain) if chain else 0
        self.assertEqual(count, greatest_count(order, wish), (order, wish, chain))
        self.assertEqual(chain == [], count == 0)
        self.assertGreater(2 ** len(steps), count)
        self.assertTrue(not steps or 2 ** (len(steps) - 1) <= count)
        self.assertEqual(len(steps), steps_for(count))
        return len(steps)

    def check_ring(self, order, wish):
        found = self.answer(group_plan, order, wish)
        self.assertEqual((found[0], len(found), type(found[1])), ("ring", 2, list))
        names = found[1]
        self.assertTrue(len(set(names)) == len(names) > 1)
        self.assertTrue(set(zip(names, names[1:] + names[:1])) <= set(wish), (names, wish))


class GroupPlans(GroupCase):
    def test_the_empty_order(self):
        self.assertEqual(self.answer(group_plan, [], []), ("steps", [], []))
        self.assertEqual(self.answer(group_plan, (), ()), ("steps", [], []))

    def test_an_order_that_keeps_the_wish(self):
        for order, wish in ((["a"], []), (["a", "b"], []), (["a", "b", "c"], [("a", "b"), ("b", "c"), ("a", "c")])):
            self.assertEqual(self.answer(group_plan, order, wish), ("steps", [], []))

    def test_one_wrong_pair(self):
        kind, steps, chain = self.answer(group_plan, ["a", "b"], [("b", "a")])
        self.assertEqual((kind, chain), ("steps", ["b", "a"]))
        self.assertIn(steps, ([("raise", ["a"])], [("lower", ["b"])]))

    def test_a_chain_with_right_pairs_between_wrong_ones(self):
        order, wish = ["b", "c", "a", "d"], [("a", "b"), ("b", "c"), ("d", "a")]
        self.assertEqual(self.check(order, wish), 2)
        self.assertEqual(self.check(["d", "b", "c", "a"], wish), 1)
        found = group_plan(order, wish)[2]
        self.assertEqual(chain_count(order, wish, found), 2)

    def test_a_right_pair_may_go_up_a_height(self):
        order, wish = ["b", "a", "c"], [("a", "b"), ("b", "c")]
        self.assertEqual(self.check(order, wish), 1)

    def test_all_small_wishes(self):
        for names in ("a", "ab", "abc"):
            pairs = list(itertools.permutations(names, 2))
            for order in itertools.permutations(names):
                for wish in itertools.chain.from_iterable(itertools.combinations(pairs, count) for count in range(5)):
                    self.check_small(list(order), list(wish))

    def check_small(self, order, wish):
        expected = fewest(order, wish)
        if expected is None:
            self.check_ring(order, wish)
        else:
            self.assertEqual(self.check(order, wish), expected, (order, wish))
        return expected

    def test_drawn_wishes_of_small_lists(self):
        source = random.Random(17)
        numbers = {number: 0 for number in (None, 0, 1, 2, 3)}
        for number in range(500):
            order = source.sample(LETTERS, source.randint(2, 5))
            goal = order[::-1] if source.random() < 0.5 else source.sample(order, len(order))
            wish = drawn_wish(source, goal, source.randint(0, 14))
            if source.random() < 0.15:
                wish.append(tuple(source.sample(order, 2)))
            numbers[self.check_small(order, wish)] += 1
        self.assertGreater(min(numbers.values()), 5, numbers)

    def test_every_two_orders_of_five_windows(self):
        names = list("abcde")
        wish = list(zip(names, names[1:]))
        for order in itertools.permutations(names):
            self.assertEqual(self.check(list(order), wish), DISTANCES[5][tuple(order.index(name) for name in names)])

    def test_up_to_68_windows_and_60_pairs(self):
        source = random.Random(68)
        for number in range(60):
            order = [f"w{at}" for at in range(source.choice((8, 24, 40, 68)))]
            source.shuffle(order)
            self.check(order, drawn_wish(source, source.sample(order, len(order)), source.choice((20, 40, 60))))

    def test_long_chains_upside_down(self):
        names = [f"w{at:02}" for at in range(68)]
        for count in (1, 2, 3, 4, 7, 8, 15, 16, 31, 32, 60, 63, 64, 67):
            wish = list(zip(names, names[1:]))[:count]
            self.assertEqual(self.check(names[::-1], wish), count.bit_length())
            self.assertEqual(group_plan(names[::-1], wish[::-1])[2], names[:count + 1])

    def test_400_windows(self):
        names = [f"w{at:03}" for at in range(400)]
        wish = list(zip(names, names[1:]))
        kind, steps, chain = group_plan(names[::-1], wish)
        self.assertEqual((len(steps), chain), (9, names))
        self.assertEqual(naive_run(None, names[::-1], steps)[1], names)

    def test_longer_texts_with_blanks_and_line_feeds(self):
        order = ["a b", "a\nb", "", "\n", "raise a", " ", "x" * 500, "~!{}"]
        wish = list(zip(order[::-1], order[-2::-1]))
        self.assertEqual(self.check(order, wish), 3)
        self.assertEqual(group_plan(order, wish)[2], order[::-1])
        self.assertEqual(self.check(order, [("x" * 500, "a\nb"), ("\n", ""), ("", "a b")]), 2)

    def test_duplicate_pairs(self):
        self.assertEqual(self.check(["a", "b", "c"], [("b", "a"), ("b", "a"), ("c", "b"), ("b", "a")]), 2)


class Rings(GroupCase):
    def test_rings(self):
        self.check_ring(["a", "b"], [("a", "b"), ("b", "a")])
        self.check_ring(["a", "b", "c", "d"], [("d", "a"), ("a", "c"), ("c", "b"), ("b", "a")])
        names = [f"w{at}" for at in range(68)]
        self.check_ring(names, [*zip(names, names[1:60]), (names[59], names[0])])

    def test_bad_wish_comes_before_a_ring(self):
        wish = [("a", "b"), ("b", "a")]
        for wrong in (("a", "x"), ("x", "a"), ("a", "a"), ("", "a")):
            self.refused(BadWish, {"at": 2}, group_plan, ["a", "b"], [*wish, wrong, ("z", "z")])
            self.refused(BadWish, {"at": 0}, group_plan, ["a", "b"], [wrong, *wish])


class StepsFor(Case):
    def test_small_counts(self):
        self.assertEqual([self.answer(steps_for, count) for count in range(10)], [0, 1, 2, 2, 3, 3, 3, 3, 4, 4])

    def test_around_powers_of_two(self):
        for power in range(1, 97):
            self.assertEqual(steps_for(2 ** power - 1), power)
            self.assertEqual(steps_for(2 ** power), power + 1)
            self.assertEqual(steps_for(2 ** power + 1), power + 1)

    def test_large_counts(self):
        for count in (10 ** 18, 10 ** 29, 10 ** 30 - 1):
            found = steps_for(count)
            self.assertTrue(2 ** (found - 1) <= count < 2 ** found)


class Arguments(Case):
    def test_by_name(self):
        wish = [("c", "b"), ("b", "a")]
        found = self.answer(group_plan, wish=wish, order=["a", "b", "c"])
        self.assertEqual(found, group_plan(["a", "b", "c"], wish))
        self.assertEqual(self.answer(steps_for, count=8), 4)
        self.assertEqual(inspect.getfullargspec(group_plan).args, ["order", "wish"])
        self.assertEqual(inspect.getfullargspec(steps_for).args, ["count"])

    def test_tuples_in_the_place_of_lists(self):
        wish = [("c", "b"), ("b", "a")]
        self.assertEqual(self.answer(group_plan, ("a", "b", "c"), tuple(wish)), group_plan(["a", "b", "c"], wish))
        ring = (("a", "b"), ("b", "a"))
        self.assertEqual(self.answer(group_plan, ("a", "b"), ring), group_plan(["a", "b"], list(ring)))

    def test_bad_wish(self):
        self.refused(BadWish, {"at": 0}, group_plan, [], [("a", "b")])
        self.refused(BadWish, {"at": 1}, group_plan, order=["a", "b"], wish=[("a", "b"), ("a", "a")])


if __name__ == "__main__":
    unittest.main()
