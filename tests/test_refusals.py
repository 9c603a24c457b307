"""[1], [2] Over the whole program: wrong orders, wishes and scripts are refused by every function that takes them."""

import unittest

from helpers import Case, row_of
from raisekeys.console import Console
from raisekeys.effects import difference, effect, idle, is_difference
from raisekeys.errors import BadOrder, BadStep, BadWish, TooLong
from raisekeys.groups import group_plan
from raisekeys.logs import Log
from raisekeys.orders import alike, least_order, wish_of
from raisekeys.plans import chain_count, is_bundle, plan
from raisekeys.runs import run
from raisekeys.sessions import Session
from raisekeys.shortest import climb_count, is_lift, shortest, shortest_groups
from raisekeys.sights import seen, tiles
from raisekeys.steps import check_script
from raisekeys.wishes import is_ring, keeps, least_keeping, ring

DESK = row_of(3)
ORDER = ["b", "a", "c"]
UP = ("raise", ["a"])

TAKE_ORDERS = {
    "alike, one": lambda order: alike(DESK, order, ORDER),
    "alike, other": lambda order: alike(DESK, ORDER, order),
    "wish_of": lambda order: wish_of(DESK, order),
    "least_order": lambda order: least_order(DESK, order),
    "seen": lambda order: seen(DESK, order, 0, 0),
    "tiles": lambda order: tiles(DESK, order),
    "run": lambda order: run(DESK, order, []),
    "run, with a wrong script": lambda order: run(DESK, order, [("jump",)]),
    "Log": lambda order: Log(DESK, order),
}
WRONG_ORDERS = ([], ["a"], ["a", "b"], ["b", "c"], ["a", "b", "b"], ["a", "b", "c", "c"], ["a", "b", "c", "x"],
                ["x", "b", "c"], ["a", "b", "x"], ["a", "a", "a"], ["A", "b", "c"], ["a", "b", ""], ["abc"], ["a b c"])

TAKE_WISHES = {
    "ring": lambda wish: ring(ORDER, wish),
    "is_ring": lambda wish: is_ring(ORDER, wish, ["a", "b"]),
    "is_ring, with no ring": lambda wish: is_ring(ORDER, wish, []),
    "keeps": lambda wish: keeps(ORDER, wish),
    "least_keeping": lambda wish: least_keeping(ORDER, wish),
    "plan": lambda wish: plan(ORDER, wish, costs={"x": 0}, fixed=["x"]),
    "is_bundle": lambda wish: is_bundle(ORDER, wish, [], costs={"x": 0}, fixed=["x"]),
    "chain_count": lambda wish: chain_count(ORDER, wish, ["a"]),
    "group_plan": lambda wish: group_plan(ORDER, wish),
}
WRONG_PAIRS = (("a", "x"), ("x", "a"), ("a", "a"), ("x", "x"), ("x", "y"), ("", "a"), ("a", ""), ("A", "b"), ("a", "b "))

TAKE_SCRIPTS = {
    "check_script": lambda script: check_script(DESK, script),
    "run": lambda script: run(DESK, ORDER, script),
    "effect": lambda script: effect(DESK, script),
    "difference, one": lambda script: difference(DESK, script, [("jump",)] * 401),
    "difference, other": lambda script: difference(DESK, [UP], script),
    "is_difference, one": lambda script: is_difference(DESK, script, [("jump",)] * 401, ("rectangle", "a")),
    "is_difference, other": lambda script: is_difference(DESK, [UP], script, ("nothing",)),
    "idle": lambda script: idle(DESK, script),
    "shortest": lambda script: shortest(DESK, script),
    "shortest_groups": lambda script: shortest_groups(DESK, script),
    "is_lift": lambda script: is_lift(DESK, script, []),
    "climb_count": lambda script: climb_count(DESK, script, []),
}
DEEP = [("repeat", 1, [("repeat", 1, [("repeat", 1, [("repeat", 1, [("repeat", 1, [("repeat", 1, [])])])])])])]
TOO_LONG = ([UP] * 401, [("jump",)] * 401, DEEP, [("jump",), *DEEP], [("raise", ["x"])] + [UP] * 400)
WRONG_STEPS = (("jump",), ("",), ("see", []), ("raise",), ("raise", []), ("raise", ["x"]), ("raise", ["a", "a"]),
               ("lower", "a"), ("lower", ["a"], 1), ("place", "a"), ("place", "x", (0, 0, 1, 1)), ("place", "a", (0, 0, 0, 1)),
               ("place", "a", (0, 0, 10 ** 9 + 1, 1)), ("repeat",), ("repeat", -1, []), ("repeat", 10 ** 18 + 1, []),
               ("repeat", 1, [UP, ("raise", ["x"])]), ("repeat", 0, [("jump",)]), ("repeat", 1, [()]))


class Refusals(Case):
    def test_orders_of_a_console(self):
        console = Console(Session(Log(DESK, ORDER)))
        for wrong in WRONG_ORDERS:
            # Neither an empty word nor a word with a blank can stand in a line.
            if wrong and not any(word == "" or " " in word for word in wrong):
                self.assertEqual(console.execute(" ".join(["fewest", *wrong])), "error BadOrder", wrong)

    def test_orders(self):
        for name, function in TAKE_ORDERS.items():
            for wrong in (*WRONG_ORDERS, *map(tuple, WRONG_ORDERS)):
                with self.subTest(function=name, order=wrong):
                    self.refused(BadOrder, {}, function, wrong)

    def test_wishes(self):
        right = [("a", "b"), ("b", "a"), ("c", "b")]
        for name, function in TAKE_WISHES.items():
            for wrong in WRONG_PAIRS:
                for at in range(4):
                    with self.subTest(function=name, pair=wrong, at=at):
                        wish = [*right[:at], wrong, ("z", "z"), *right[at:]]
                        self.refused(BadWish, {"at": at}, function, wish)
                        self.refused(BadWish, {"at": at}, function, tuple(wish))

    def test_scripts_that_are_too_long(self):
        for name, function in TAKE_SCRIPTS.items():
            for script in TOO_LONG:
                with self.subTest(function=name, script=script[:2]):
                    self.refused(TooLong, {}, function, script)
                    self.refused(TooLong, {}, function, tuple(script))

    def test_wrong_steps(self):
        for name, function in TAKE_SCRIPTS.items():
            for wrong in WRONG_STEPS:
                with self.subTest(function=name, step=wrong):
                    self.refused(BadStep, {"at": 0}, function, [wrong, ("jump",)])
                    self.refused(BadStep, {"at": 2}, function, (UP, UP, wrong, UP))


if __name__ == "__main__":
    unittest.main()
