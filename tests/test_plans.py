"""[14] to [16] Single moves, costs, fixed windows, plans, chains and bundles."""

import heapq
import inspect
import itertools
import random
import unittest

from helpers import LETTERS, Case, drawn_wish, shows
from raisekeys.errors import BadCost, BadWish, Unknown
from raisekeys.plans import MOST_COST, chain_count, is_bundle, plan

EVERY = {
    "plan": plan,
    "is_bundle": lambda order, wish, **named: is_bundle(order, wish, [], **named),
}


def moved(order, step):
    """The order after a single move, by the words of [6]."""
    word, (name,) = step
    others = [other for other in order if other != name]
    return others + [name] if word == "raise" else [name] + others


def least_price(order, wish, costs, fixed):
    """The least price of single moves after which the order keeps the wish, or None: the cheapest way is searched."""
    queue, prices = [(0, list(order))], {}
    while queue:
        price, reached = heapq.heappop(queue)
        if tuple(reached) in prices:
            continue
        prices[tuple(reached)] = price
        if shows(reached, wish):
            return price
        for name, word in itertools.product([name for name in order if name not in fixed], ("raise", "lower")):
            heapq.heappush(queue, (price + costs.get(name, 1), moved(reached, (word, [name]))))
    return None


def count_of(order, wish, chain):
    """The count of a chain, by the words of [15], or None."""
    pairs = list(zip(chain, chain[1:]))
    if not pairs or not all(pair in wish for pair in pairs):
        return None
    return sum(order.index(low) > order.index(high) for low, high in pairs)


def is_a_bundle(order, wish, bundle, costs, fixed):
    """Whether a list is a bundle, by the words of [15], without chains between fixed windows."""
    begun, ended = dict.fromkeys(order, 0), dict.fromkeys(order, 0)
    for chain, amount in bundle:
        if not count_of(order, wish, chain) or amount < 1 or {chain[0], chain[-1]} <= set(fixed):
            return False
        begun[chain[0]] += amount
        ended[chain[-1]] += amount
    return all(max(begun[name], ended[name]) <= costs.get(name, 1) for name in order if name not in fixed)


def drawn_costs(source, order, most):
    """Costs of some windows, or of all, or of none."""
    names = source.sample(order, source.randint(0, len(order)))
    return {name: source.randint(1, most) for name in names}


class PlanCase(Case):
    def check_plan(self, order, wish, costs, fixed):
        """The plan leads to an order that keeps the wish, and its bundle has the cost of it as its sum."""
        kind, steps, bundle = plan(order, wish, costs=costs, fixed=fixed)
        self.assertEqual(kind, "plan")
        reached = list(order)
        for step in steps:
            self.assertIn(step[0], ("raise", "lower"))
            self.assertIs(type(step), tuple)
            self.assertEqual((type(step[1]), len(step), len(step[1])), (list, 2, 1))
            reached = moved(reached, step)
        self.assertTrue(shows(reached, wish), (order, wish, steps))
        names = [step[1][0] for step in steps]
        self.assertEqual(len(set(names)), len(names), "a window is moved twice")
        self.assertEqual(set(names) & set(fixed), set(), "a fixed window is moved")
        price = sum(costs.get(name, 1) for name in names)
        self.assertEqual(sum(amount for chain, amount in bundle), price)
        self.assertTrue(is_a_bundle(order, wish, bundle, costs, fixed), bundle)
        self.assertIs(is_bundle(order, wish, bundle, costs=costs, fixed=fixed), True)
        self.assertTrue(all(type(chain) is list for chain, amount in bundle))
        return price

    def check_stuck(self, order, wish, found, fixed):
        self.assertEqual((found[0], len(found), type(found[1])), ("stuck", 2, list))
        self.assertGreaterEqual(count_of(order, wish, found[1]), 1)
        self.assertTrue({found[1][0], found[1][-1]} <= set(fixed))


class Plans(PlanCase):
    def test_most_cost(self):
        self.assertEqual(MOST_COST, 1000)

    def test_the_empty_order(self):
        self.assertEqual(self.answer(plan, [], []), ("plan", [], []))
        self.assertEqual(self.answer(plan, [], [], costs={}, fixed=[]), ("plan", [], []))

    def test_an_order_that_keeps_the_wish(self):
        self.assertEqual(self.answer(plan, ["a", "b", "c"], [("a", "b"), ("a", "c")]), ("plan", [], []))
        self.assertEqual(self.answer(plan, ["a"], []), ("plan", [], []))
        self.assertEqual(self.answer(plan, ["a", "b"], [("a", "b")], fixed=["a", "b"]), ("plan", [], []))

    def test_one_wrong_pair(self):
        wish = [("b", "a")]
        for costs, fixed, expected in (({"a": 2}, [], ("lower", ["b"])), ({"b": 2}, [], ("raise", ["a"])),
                                       ({}, ["a"], ("lower", ["b"])), ({}, ["b"], ("raise", ["a"])),
                                       ({"a": 1000}, ["b"], ("raise", ["a"])), ({"b": 7}, ("a", "a"), ("lower", ["b"]))):
            kind, steps, bundle = self.answer(plan, ["a", "b"], wish, costs=costs, fixed=fixed)
            price = costs.get(expected[1][0], 1)
            self.assertEqual((kind, steps, bundle), ("plan", [expected], [(["b", "a"], price)]))

    def test_duplicate_pairs(self):
        kind, steps, bundle = self.answer(plan, ["a", "b"], [("b", "a")] * 3, costs={"a": 5, "b": 3})
        self.assertEqual((steps, bundle), ([("lower", ["b"])], [(["b", "a"], 3)]))

    def test_all_small_wishes(self):
        for names in ("a", "ab", "abc"):
            pairs = list(itertools.permutations(names, 2))
            for order in itertools.permutations(names):
                for wish in itertools.chain.from_iterable(itertools.combinations(pairs, count) for count in range(4)):
                    self.check_small(list(order), list(wish), {}, [])

    def check_small(self, order, wish, costs, fixed):
        """The result is that of the search through all orders that can be reached."""
        found = plan(order, wish, costs=costs, fixed=fixed)
        kept = [goal for goal in itertools.permutations(order) if shows(goal, wish)]
        if not kept:
            self.assertEqual(found[0], "ring")
            return found[0]
        expected = least_price(order, wish, costs, fixed)
        if expected is None:
            self.check_stuck(order, wish, found, fixed)
        else:
            self.assertEqual(self.check_plan(order, wish, costs, fixed), expected, (order, wish, costs, fixed))
        return found[0]

    def test_drawn_costs_and_fixed_windows_of_small_lists(self):
        source = random.Random(14)
        kinds = {"plan": 0, "stuck": 0, "ring": 0}
        for number in range(700):
            order = source.sample(LETTERS, source.randint(2, 5))
            goal = source.sample(order, len(order))
            wish = drawn_wish(source, goal, source.randint(0, 6))
            if source.random() < 0.15:
                wish.append(tuple(source.sample(order, 2)))
            fixed = source.sample(order, source.choice((0, 0, 1, 2, len(order))))
            costs = drawn_costs(source, order, source.choice((2, 4, 1000)))
            kinds[self.check_small(order, wish, costs, fixed)] += 1
        self.assertGreater(min(kinds.values()), 20, kinds)

    def test_up_to_24_windows_60_pairs_and_costs_up_to_1000(self):
        source = random.Random(16)
        kinds = {"plan": 0, "stuck": 0}
        for number in range(120):
            order = source.sample(LETTERS, source.choice((8, 16, 24)))
            wish = drawn_wish(source, source.sample(order, len(order)), source.choice((10, 30, 60)))
            fixed = source.sample(order, source.choice((0, 0, 1, 3)))
            costs = drawn_costs(source, order, 1000)
            found = self.answer(plan, order, wish, costs=costs, fixed=fixed)
            kinds[found[0]] += 1
            if found[0] == "stuck":
                self.check_stuck(order, wish, found, fixed)
            else:
                self.check_plan(order, wish, costs, fixed)
        self.assertGreater(min(kinds.values()), 10, kinds)

    def test_an_order_turned_upside_down(self):
        names = list(LETTERS[:24])
        wish = list(itertools.combinations(names, 2))
        self.assertEqual(self.check_plan(names[::-1], wish, {}, []), 23)
        self.assertEqual(self.check_plan(names[::-1], wish, {"m": 1000}, []), 23)
        self.assertEqual(self.check_plan(names[::-1], wish, {"m": 1000}, ["b"]), 1022)
        self.assertEqual(plan(names[::-1], wish, fixed=["b", "m"])[0], "stuck")

    def test_400_windows(self):
        names = [f"w{number:03}" for number in range(400)]
        wish = list(zip(names[1:], names))
        self.assertEqual(self.check_plan(names, wish, {}, []), 399)
        self.assertEqual(self.check_plan(names, wish[:200], {}, [names[0]]), 200)
        self.assertEqual(plan(names, wish, fixed=[names[0], names[-1]]), ("stuck", names[::-1]))


class Stuck(PlanCase):
    def test_a_chain_with_a_right_pair(self):
        order, wish = ["b", "c", "a"], [("a", "b"), ("b", "c")]
        found = self.answer(plan, order, wish, fixed=["c", "a"])
        self.assertEqual(found, ("stuck", ["a", "b", "c"]))

    def test_a_chain_whose_ends_stand_right(self):
        order, wish = ["a", "c", "b", "d"], [("a", "b"), ("b", "c"), ("c", "d")]
        self.assertEqual(self.answer(plan, order, wish, fixed=["d", "a"]), ("stuck", ["a", "b", "c", "d"]))
        self.assertEqual(self.answer(plan, order, wish, fixed=["a", "c"]), ("stuck", ["a", "b", "c"]))

    def test_fixed_windows_without_such_a_chain(self):
        order, wish = ["a", "c", "b", "d"], [("a", "b"), ("b", "c"), ("a", "d")]
        self.check_plan(order, wish, {}, ["a", "d"])
        self.check_plan(order, wish, {}, ["a", "b"])
        self.check_plan(order, [("b", "c")], {}, ["a", "b", "d"])

    def test_only_the_fixed_windows_decide_not_the_costs(self):
        order, wish = ["a", "b"], [("b", "a")]
        for costs in (None, {}, {"a": 1}, {"a": 1000, "b": 1000}):
            self.assertEqual(self.answer(plan, order, wish, costs=costs, fixed=["b", "a", "b"]), ("stuck", ["b", "a"]))


class Rings(PlanCase):
    def test_a_ring_comes_first_of_all(self):
        wish = [("b", "a"), ("a", "c"), ("c", "b"), ("d", "a")]
        for fixed in ([], ["a", "d"], ["a", "b", "c", "d"]):
            found = self.answer(plan, ["a", "b", "c", "d"], wish, fixed=fixed)
            self.assertEqual((found[0], len(found), sorted(found[1])), ("ring", 2, ["a", "b", "c"]))
            self.assertTrue(set(zip(found[1], found[1][1:] + found[1][:1])) <= set(wish))

    def test_but_after_the_errors(self):
        order, wish = ["a", "b"], [("b", "a"), ("a", "b")]
        self.refused(BadWish, {"at": 2}, plan, order, [*wish, ("a", "x")])
        self.refused(Unknown, {"name": "x"}, plan, order, wish, costs={"x": 1})
        self.refused(BadCost, {"name": "a"}, plan, order, wish, costs={"a": 0})
        self.refused(Unknown, {"name": "x"}, plan, order, wish, fixed=["x"])


class ChainCount(Case):
    ORDER = ["d", "a", "b", "c", "e"]
    WISH = [("b", "a"), ("a", "c"), ("c", "b"), ("c", "d"), ("b", "a"), ("d", "e")]

    def check(self, chain, expected):
        self.assertEqual(self.answer(chain_count, self.ORDER, self.WISH, chain), expected, chain)
        self.assertEqual(chain_count(self.ORDER, self.WISH, tuple(chain)), expected, chain)

    def test_chains(self):
        self.check(["b", "a"], 1)
        self.check(["a", "c"], 0)
        self.check(["d", "e"], 0)
        self.check(["b", "a", "c"], 1)
        self.check(["b", "a", "c", "d"], 2)
        self.check(["b", "a", "c", "d", "e"], 2)

    def test_a_chain_along_a_ring(self):
        self.check(["a", "c", "b", "a"], 2)
        self.check(["b", "a", "c", "b", "a", "c", "b"], 4)

    def test_lists_that_are_no_chains(self):
        for chain in ([], ["a"], ["x"], ["a", "b"], ["a", "a"], ["b", "c"], ["b", "a", "b"], ["b", "x"], ["x", "a"],
                      ["x", "y"], ["b", "a", "x"], ["b", "a", "c", "e"], ["c", "a", "b"]):
            self.check(chain, None)

    def test_every_short_list(self):
        for length in range(5):
            for chain in itertools.product("abcdx", repeat=length):
                self.assertEqual(chain_count(self.ORDER, self.WISH, list(chain)), count_of(self.ORDER, self.WISH, chain))

    def test_without_windows(self):
        self.assertIsNone(self.answer(chain_count, [], [], []))
        self.assertIsNone(self.answer(chain_count, [], [], ["a", "b"]))

    def test_bad_wish(self):
        for wrong in (("a", "x"), ("x", "a"), ("a", "a")):
            for chain in ([], ["a"], ["b", "a"], ["x", "y"]):
                self.refused(BadWish, {"at": 1}, chain_count, ["a", "b"], [("b", "a"), wrong, ("z", "z")], chain)


class Bundles(Case):
    ORDER = ["a", "b", "c", "d"]
    WISH = [("b", "a"), ("c", "b"), ("d", "c"), ("a", "d")]

    def check(self, bundle, expected, wish=None, **named):
        wish = wish or self.WISH[:3]
        self.assertIs(self.answer(is_bundle, self.ORDER, wish, bundle, **named), expected, bundle)
        self.assertIs(is_bundle(tuple(self.ORDER), tuple(wish), tuple(bundle), **named), expected, bundle)

    def test_right_bundles(self):
        self.check([], True)
        self.check([(["b", "a"], 1)], True)
        self.check([(["d", "c", "b", "a"], 1)], True)
        self.check([(["b", "a"], 1), (["c", "b"], 1), (["d", "c"], 1)], True)
        self.check([(("b", "a"), 1), (("c", "b"), 1)], True)

    def test_amounts_up_to_the_costs_of_the_first_and_the_last_window(self):
        costs = {"b": 5, "a": 7}
        self.check([(["b", "a"], 5)], True, costs=costs)
        self.check([(["b", "a"], 6)], False, costs=costs)
        self.check([(["b", "a"], 7)], False, costs=costs)
        self.check([(["b", "a"], 6)], False, costs={"b": 7, "a": 5})
        self.check([(["b", "a"], 1)], True, costs={"b": 1})
        self.check([(["b", "a"], 2)], False, costs={"b": 2})
        self.check([(["c", "b", "a"], 3)], True, costs={"c": 3, "a": 3})
        self.check([(["b", "a"], 1000)], True, costs={"a": 1000, "b": 1000})

    def test_amounts_are_summed_up(self):
        costs = {"a": 5, "b": 3, "c": 3}
        self.check([(["b", "a"], 3), (["c", "b", "a"], 2)], True, costs=costs)
        self.check([(["b", "a"], 3), (["c", "b", "a"], 3)], False, costs=costs)
        self.check([(["b", "a"], 2), (["b", "a"], 1)], True, costs=costs)
        self.check([(["b", "a"], 2), (["b", "a"], 2)], False, costs=costs)
        self.check([(["c", "b"], 2), (["c", "b", "a"], 1)], True, costs=costs)
        self.check([(["c", "b"], 2), (["c", "b", "a"], 2)], False, costs=costs)

    def test_a_window_may_begin_one_chain_and_end_another_one(self):
        self.check([(["c", "b"], 1), (["b", "a"], 1)], True)

    def test_amounts_of_0_and_below(self):
        for amount in (0, -1, -10 ** 29):
            self.check([(["b", "a"], amount)], False)
            self.check([(["b", "a"], 1), (["d", "c"], amount)], False)
        self.check([(["b", "a"], 2), (["c", "b", "a"], -1)], False)
        self.check([(["b", "a"], 10 ** 29)], False)

    def test_chains_cut_doubled_or_reversed(self):
        for chain in ([], ["b"], ["a", "b"], ["b", "b", "a"], ["b", "a", "a"], ["b", "a", "b", "a"], ["a", "b", "c"],
                      ["c", "a"], ["x", "a"], ["b", "x"], ["x", "y"], ["x"]):
            self.check([(chain, 1)], False)
            self.check([(["d", "c"], 1), (chain, 1)], False)

    def test_chains_of_a_count_of_0(self):
        self.check([(["a", "d"], 1)], False, wish=self.WISH)
        self.check([(["a", "d", "c"], 1)], True, wish=self.WISH)
        self.check([(["a", "d"], 1)], False, wish=[("a", "d"), ("b", "c")])

    def test_fixed_windows_have_no_limit(self):
        self.check([(["b", "a"], 5)], True, costs={"a": 5}, fixed=["b"])
        self.check([(["b", "a"], 6)], False, costs={"a": 5}, fixed=["b"])
        self.check([(["b", "a"], 5)], True, costs={"b": 5, "a": 2}, fixed=("a",))
        self.check([(["b", "a"], 1), (["d", "c", "b"], 1)], True, fixed=["b"])

    def test_chains_between_fixed_windows(self):
        self.check([(["b", "a"], 1)], False, fixed=["a", "b"])
        self.check([(["c", "b", "a"], 1)], False, fixed=["a", "c"])
        self.check([(["c", "b", "a"], 1)], True, fixed=["b", "c"])
        self.check([(["c", "b", "a"], 1)], True, fixed=["a", "b", "d"])

    def test_a_wish_with_a_ring(self):
        self.check([(["c", "b", "a", "d", "c"], 1)], True, wish=self.WISH)
        self.check([(["c", "b", "a", "d", "c"], 1)], False, wish=self.WISH, fixed=["c"])

    def test_altered_bundles_of_drawn_plans(self):
        source = random.Random(15)
        verdicts = {True: 0, False: 0}
        for number in range(150):
            order = source.sample(LETTERS, source.randint(3, 10))
            wish = drawn_wish(source, source.sample(order, len(order)), source.randint(2, 20))
            costs, fixed = drawn_costs(source, order, 5), source.sample(order, source.choice((0, 1, 2)))
            found = plan(order, wish, costs=costs, fixed=fixed)
            if found[0] != "plan" or not found[2]:
                continue
            at = source.randrange(len(found[2]))
            chain, amount = found[2][at]
            for altered in ((chain, amount + 1), (chain, amount - 1), (chain, 0), (chain[1:], amount), (chain[:-1], amount),
                            (chain[::-1], amount), (chain + chain[-1:], amount), (chain + ["?"], amount)):
                bundle = found[2][:at] + [altered] + found[2][at + 1:]
                expected = is_a_bundle(order, wish, bundle, costs, fixed)
                verdicts[expected] += 1
                self.assertIs(self.answer(is_bundle, order, wish, bundle, costs=costs, fixed=fixed), expected)
            doubled = found[2] + [found[2][at]]
            expected = is_a_bundle(order, wish, doubled, costs, fixed)
            self.assertIs(is_bundle(order, wish, doubled, costs=costs, fixed=fixed), expected)
        self.assertGreater(min(verdicts.values()), 50, verdicts)


class Errors(Case):
    ORDER = ["b", "a", "c"]
    WISH = [("a", "b"), ("c", "b")]

    def check(self, error, attributes, wish=None, **named):
        for function in EVERY.values():
            self.refused(error, attributes, function, self.ORDER, wish or self.WISH, **named)

    def test_bad_wish(self):
        for wrong in (("x", "a"), ("a", "x"), ("a", "a"), ("x", "x")):
            self.check(BadWish, {"at": 2}, wish=[*self.WISH, wrong, ("z", "z")])
            self.check(BadWish, {"at": 0}, wish=[wrong])
        for function in EVERY.values():
            self.refused(BadWish, {"at": 0}, function, [], [("a", "b")])

    def test_costs_at_their_bounds(self):
        for cost in (1, 2, 999, 1000):
            self.assertEqual(plan(self.ORDER, [("a", "b")], costs={"a": cost, "b": 1000})[2], [(["a", "b"], cost)])
        for cost in (0, -1, 1001, 10 ** 29, -10 ** 29):
            for name in self.ORDER:
                self.check(BadCost, {"name": name}, costs={"a": 1, "b": 1000, "c": 5, name: cost})

    def test_the_first_wrong_cost_in_ascending_order(self):
        for keys in itertools.permutations("abc"):
            costs = {key: {"a": 7, "b": 0, "c": 1001}[key] for key in keys}
            self.check(BadCost, {"name": "b"}, costs=costs)

    def test_the_first_unknown_key_in_ascending_order(self):
        for keys in itertools.permutations(("a", "x", "z", "aa")):
            self.check(Unknown, {"name": "aa"}, costs={key: 1 for key in keys})
        self.check(Unknown, {"name": ""}, costs={"": 1, "a": 2})

    def test_the_first_unknown_item_of_fixed(self):
        self.check(Unknown, {"name": "z"}, fixed=["a", "z", "x"])
        self.check(Unknown, {"name": "x"}, fixed=("x", "a", "aa"))
        self.check(Unknown, {"name": ""}, fixed=[""])

    def test_several_errors_at_once(self):
        wrong_wish = [("a", "b"), ("a", "a")]
        self.check(BadWish, {"at": 1}, wish=wrong_wish, costs={"x": 0, "a": 0}, fixed=["y"])
        self.check(BadWish, {"at": 1}, wish=wrong_wish, costs={"a": 0})
        self.check(BadWish, {"at": 1}, wish=wrong_wish, fixed=["y"])
        self.check(Unknown, {"name": "x"}, costs={"x": 0, "a": 0}, fixed=["y"])
        self.check(Unknown, {"name": "x"}, costs={"a": 1001, "x": 1})
        self.check(BadCost, {"name": "a"}, costs={"c": 0, "a": 0}, fixed=["y"])
        self.check(Unknown, {"name": "y"}, costs={"a": 1}, fixed=["a", "y"])

    def test_errors_come_before_what_is_wrong_in_a_bundle(self):
        self.refused(BadCost, {"name": "a"}, is_bundle, self.ORDER, self.WISH, [(["x"], 0)], costs={"a": 0})
        self.refused(BadWish, {"at": 0}, is_bundle, self.ORDER, [("x", "a")], [(["x"], 0)])


class Arguments(Case):
    ORDER = ["a", "b", "c"]
    WISH = [("c", "b"), ("b", "a")]

    def test_by_name(self):
        found = self.answer(plan, wish=self.WISH, order=self.ORDER, fixed=["a"], costs={"b": 5, "c": 2})
        self.assertEqual(sum(amount for chain, amount in found[2]), 7)
        self.assertIs(self.answer(is_bundle, bundle=[(["b", "a"], 5)], wish=self.WISH, order=self.ORDER, fixed=["a"],
                                  costs={"b": 5}), True)
        self.assertEqual(self.answer(chain_count, chain=["c", "b", "a"], wish=self.WISH, order=self.ORDER), 2)

    def test_what_stands_after_the_star_is_keyword_only(self):
        for function, first in ((plan, ["order", "wish"]), (is_bundle, ["order", "wish", "bundle"])):
            spec = inspect.getfullargspec(function)
            self.assertEqual((spec.args, spec.kwonlyargs), (first, ["costs", "fixed"]))
            self.assertEqual(spec.kwonlydefaults, {"costs": None, "fixed": ()})
        with self.assertRaises(TypeError):
            plan(self.ORDER, self.WISH, {})
        with self.assertRaises(TypeError):
            is_bundle(self.ORDER, self.WISH, [], {})

    def test_tuples_in_the_place_of_lists(self):
        found = self.answer(plan, tuple(self.ORDER), tuple(self.WISH), fixed=("b",))
        self.assertEqual(found, plan(self.ORDER, self.WISH, fixed=["b"]))
        stuck = self.answer(plan, tuple(self.ORDER), tuple(self.WISH), fixed=("a", "c"))
        self.assertEqual(stuck, ("stuck", ["c", "b", "a"]))

    def test_the_order_of_the_keys_of_the_costs_does_not_matter(self):
        source = random.Random(20)
        for number in range(20):
            order = source.sample(LETTERS, 10)
            wish = drawn_wish(source, source.sample(order, 10), 20)
            costs = {name: source.randint(1, 3) for name in order}
            turned = {name: costs[name] for name in reversed(costs)}
            self.assertEqual(plan(order, wish, costs=costs), plan(order, wish, costs=turned))

    def test_no_costs(self):
        self.assertEqual(plan(self.ORDER, self.WISH), plan(self.ORDER, self.WISH, costs={}, fixed=[]))
        self.assertEqual(plan(self.ORDER, self.WISH, costs=None), plan(self.ORDER, self.WISH, costs={"a": 1, "b": 1, "c": 1}))


if __name__ == "__main__":
    unittest.main()
