"""Over the whole program: what plans, group plans and shortest scripts promise, shown by `run`."""

import random
import unittest

from helpers import Case, drawn_desk, drawn_order, drawn_script
from raisekeys.effects import difference
from raisekeys.groups import group_plan
from raisekeys.orders import alike, wish_of
from raisekeys.plans import plan
from raisekeys.runs import run
from raisekeys.shortest import shortest, shortest_groups
from raisekeys.sights import seen, tiles
from raisekeys.stories import demands, least_start
from raisekeys.wishes import keeps


class Runs(Case):
    def test_plans_and_group_plans_to_another_order(self):
        source = random.Random(1)
        for number in range(80):
            desk = drawn_desk(source, source.choice((1, 3, 6, 12, 24)), source.choice((3, 8)))
            order, goal = drawn_order(source, desk), drawn_order(source, desk)
            wish = wish_of(desk, goal)
            for found in (plan(order, wish), group_plan(order, wish)):
                last, reached = run(desk, order, found[1])
                self.assertEqual(last, desk)
                self.assertTrue(alike(desk, reached, goal))
                self.assertTrue(keeps(reached, wish))
            self.assertLessEqual(len(group_plan(order, wish)[1]), len(plan(order, wish)[1]))

    def test_shortest_scripts_from_drawn_orders(self):
        source = random.Random(2)
        for number in range(80):
            desk = drawn_desk(source, source.choice((1, 3, 6, 12)), source.choice((3, 8)))
            script = drawn_script(source, desk, 3, 5)
            for found in (shortest(desk, script), shortest_groups(desk, script)):
                if found[0] == "none":
                    continue
                self.assertIsNone(difference(desk, script, found[1]))
                for start in range(5):
                    order = drawn_order(source, desk)
                    one, other = run(desk, order, script), run(desk, order, found[1])
                    self.assertEqual(one[0], other[0])
                    self.assertTrue(alike(one[0], one[1], other[1]))

    def test_plans_to_what_a_story_demands(self):
        source = random.Random(3)
        for number in range(40):
            desk = drawn_desk(source, 6)
            start = drawn_order(source, desk)
            facts = [(rectangle[0], rectangle[1], name) for rectangle, name in tiles(desk, start)]
            events = [("see", facts[:5]), ("see", facts[5:])]
            wish = demands(desk, events)
            self.assertTrue(keeps(start, wish))
            order = drawn_order(source, desk)
            for found in (plan(order, wish), group_plan(order, wish)):
                reached = run(desk, order, found[1])[1]
                self.assertEqual([(x, y, seen(desk, reached, x, y)) for x, y, name in facts], facts)
            first = least_start(desk, events)
            self.assertEqual([(x, y, seen(desk, first, x, y)) for x, y, name in facts], facts)


if __name__ == "__main__":
    unittest.main()
