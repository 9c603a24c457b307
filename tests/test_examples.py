"""The examples of the document."""

import unittest

from raisekeys.console import Console
from raisekeys.desks import Desk
from raisekeys.effects import difference, effect, idle
from raisekeys.errors import BadFact, BadPage, BadRectangle, BadText, Impossible, NoStamp
from raisekeys.groups import group_plan, steps_for
from raisekeys.logs import Log
from raisekeys.orders import alike, least_order, wish_of
from raisekeys.pages import page, read_page
from raisekeys.plans import chain_count, plan
from raisekeys.rects import common, covers
from raisekeys.runs import run
from raisekeys.sessions import Session
from raisekeys.shortest import shortest, shortest_groups
from raisekeys.sights import demanded, seen, tiles
from raisekeys.steps import flat, script_size
from raisekeys.stories import contradiction, demands, sure
from raisekeys.texts import format_step, parse_script
from raisekeys.wishes import keeps, least_keeping, ring


class Examples(unittest.TestCase):
    def test_rects(self):
        found = [common((0, 0, 4, 4), (2, 1, 9, 3)), common((0, 0, 4, 4), (4, 0, 5, 4)), covers((0, 0, 4, 4), 3, 0)]
        self.assertEqual(found, [(2, 1, 4, 3), None, True])

    def test_desk(self):
        desk = Desk({"b": (3, 0, 9, 5), "a": (0, 0, 4, 4), "c": (20, 0, 21, 1)})
        found = [desk.names(), desk.pairs(), len(desk), repr(desk)]
        self.assertEqual(found, [["a", "b", "c"], [("a", "b")], 3, "Desk(3 windows)"])

    def test_desk_with_a_wrong_rectangle(self):
        with self.assertRaises(BadRectangle) as caught:
            Desk({"a": (0, 0, 4, 4), "b": (3, 0, 3, 5)})
        self.assertEqual(caught.exception.name, "b")

    def test_orders(self):
        desk = Desk({"b": (3, 0, 9, 5), "a": (0, 0, 4, 4), "c": (20, 0, 21, 1)})
        found = [alike(desk, ["b", "c", "a"], ["c", "b", "a"]), wish_of(desk, ["c", "b", "a"]),
                 least_order(desk, ["c", "b", "a"])]
        self.assertEqual(found, [True, [("b", "a")], ["b", "a", "c"]])

    def test_sights(self):
        desk = Desk({"b": (1, 0, 5, 2), "a": (0, 0, 3, 1)})
        found = [tiles(desk, ["b", "a"]), seen(desk, ["b", "a"], 3, 0)]
        self.assertEqual(found, [[((0, 0, 3, 1), "a"), ((3, 0, 5, 1), "b"), ((1, 1, 5, 2), "b")], "b"])
        self.assertEqual(demanded(desk, [(2, 0, "a"), (4, 0, "b"), (9, 9, None)]), [("b", "a")])

    def test_a_fact_that_does_not_agree(self):
        with self.assertRaises(BadFact) as caught:
            demanded(Desk({"a": (0, 0, 3, 1)}), [(2, 0, "a"), (0, 0, None)])
        self.assertEqual(caught.exception.at, 1)

    def test_wishes(self):
        wish = [("c", "a"), ("b", "c")]
        found = [ring(["a", "b", "c"], wish), keeps(["c", "b", "a"], wish), least_keeping(["a", "b", "c", "d"], wish)]
        self.assertEqual(found, [None, False, ["b", "c", "a", "d"]])
        with self.assertRaises(Impossible):
            least_keeping(["a", "b"], [("a", "b"), ("b", "a")])

    def test_steps(self):
        script = [("raise", ["a"]), ("repeat", 5, [("lower", ["b"]), ("repeat", 0, [("raise", ["c"])])])]
        self.assertEqual([script_size(script), flat(script)], [5, [("raise", ["a"]), ("lower", ["b"])]])

    def test_runs(self):
        desk = Desk({"a": (0, 0, 2, 2), "b": (1, 0, 3, 2), "c": (0, 1, 3, 3)})
        found = run(desk, ["a", "b", "c"], [("raise", ["a", "b"]), ("lower", ["b"])])
        self.assertEqual(found[1], ["b", "c", "a"])

    def test_effects(self):
        desk = Desk({"a": (0, 0, 2, 2), "b": (1, 0, 3, 2), "c": (9, 9, 10, 10)})
        one, other = [("raise", ["a"]), ("raise", ["c"])], [("raise", ["c", "a"]), ("lower", ["b"])]
        found = [effect(desk, one), difference(desk, one, other), idle(desk, one), idle(desk, other)]
        self.assertEqual(found, [[("a", "b", "over")], None, [1], [0, 1]])

    def test_plans(self):
        wish = [("c", "b"), ("b", "a")]
        kind, steps, bundle = plan(["a", "b", "c"], wish)
        found = [kind, len(steps), sum([amount for chain, amount in bundle]),
                 chain_count(["a", "b", "c"], wish, ["c", "b", "a"])]
        self.assertEqual(found, ["plan", 2, 2, 2])
        self.assertEqual(plan(["a", "b"], [("b", "a")], fixed=["a", "b"]), ("stuck", ["b", "a"]))

    def test_groups(self):
        found = group_plan(["a", "b", "c"], [("c", "b"), ("b", "a")])
        self.assertEqual([len(found[1]), found[2], steps_for(3), steps_for(4)], [2, ["c", "b", "a"], 2, 3])

    def test_shortest(self):
        desk = Desk({"a": (0, 0, 2, 2), "b": (1, 0, 3, 2), "c": (0, 1, 3, 3)})
        script = [("raise", ["a", "b"]), ("raise", ["c"]), ("raise", ["a", "b"])]
        found = [shortest(desk, script)[:2], len(shortest_groups(desk, script)[1])]
        self.assertEqual(found, [("script", [("lower", ["c"])]), 1])

    def test_stories(self):
        desk = Desk({"a": (0, 0, 2, 2), "b": (1, 0, 3, 2), "c": (0, 1, 3, 3)})
        events = [("see", [(1, 0, "a")]), ("raise", ["c"]), ("see", [(1, 1, "c")])]
        found = [contradiction(desk, events), demands(desk, events), sure(desk, events, "a", "b"),
                 sure(desk, events, "b", "c")]
        self.assertEqual(found, [None, [("b", "a")], "over", "under"])

    def test_a_story_with_a_contradiction(self):
        desk = Desk({"a": (0, 0, 2, 2), "b": (1, 0, 3, 2)})
        found = contradiction(desk, [("raise", ["b"]), ("see", [(9, 9, None), (1, 0, "a")])])
        self.assertEqual(found, ("step", 1, 1, "b", 0))

    def test_logs(self):
        log = Log(Desk({"a": (0, 0, 2, 2), "b": (1, 0, 3, 2)}), ["a", "b"])
        log.add((7, "ann"), ("lower", ["a"]))
        log.add((5, "bob"), ("raise", ["a"]))
        found = [log.state()[1], log.matters((5, "bob")), log.parting("b", "a")]
        self.assertEqual(found, [["a", "b"], False, (7, "ann")])

    def test_a_stamp_that_is_not_there(self):
        with self.assertRaises(NoStamp) as caught:
            Log(Desk({"a": (0, 0, 2, 2)}), ["a"]).strike((1, "ann"))
        self.assertEqual(caught.exception.stamp, (1, "ann"))

    def test_sessions(self):
        session = Session(Log(Desk({"a": (0, 0, 2, 2), "b": (1, 0, 3, 2)}), ["a", "b"]))
        number = session.watch(("cell", 1, 1))
        session.do_all([("add", (1, "ann"), ("raise", ["a"])), ("add", (2, "bob"), ("place", "b", (1, 1, 3, 3)))])
        found = [number, session.answers(), session.news(), session.news(), session.turns()]
        self.assertEqual(found, [1, [(1, "a")], [1], [], (1, 0)])

    def test_texts(self):
        found = [format_step(("place", "ab", (0, -3, 5, 4))), parse_script("raise b a\nlower c\n")]
        self.assertEqual(found, ["place ab 0 -3 5 4", [("raise", ["b", "a"]), ("lower", ["c"])]])
        with self.assertRaises(BadText) as caught:
            parse_script("raise b\nraise b b\n")
        self.assertEqual(caught.exception.at, 1)

    def test_pages(self):
        log = Log(Desk({"a": (0, 0, 2, 2), "b": (1, 0, 3, 2)}), ["b", "a"])
        log.add((7, "ann"), ("lower", ["a"]))
        self.assertEqual(page(log), "window b 1 0 3 2\nwindow a 0 0 2 2\nentry 7 ann lower a\n")
        with self.assertRaises(BadPage) as caught:
            read_page("window b 1 0 3 2\nentry 7 ann lower a\n")
        self.assertEqual(caught.exception.row, 1)

    def test_console(self):
        console = Console(Session(Log(Desk({"a": (0, 0, 2, 2), "b": (1, 0, 3, 2)}), ["a", "b"])))
        found = [console.execute("add 3 ann raise a"), console.execute("order"), console.execute("fewest a b")]
        self.assertEqual(found, ["ok", "b a", "1 1"])

    def test_a_console_with_an_error_and_an_unknown_line(self):
        console = Console(Session(Log(Desk({"a": (0, 0, 2, 2)}), ["a"])))
        found = [console.execute("undo"), console.execute("seen 1 1"), console.execute("raise a"), len(console)]
        self.assertEqual(found, ["error NothingLeft", "a", "unknown", 3])


if __name__ == "__main__":
    unittest.main()
