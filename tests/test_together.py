"""Over the whole program: what plans and shortest scripts promise, shown by `run`; logs, pages, sessions and consoles."""

import random
import unittest

from helpers import Case, drawn_desk, drawn_log, drawn_order, drawn_script, made_log
from raisekeys.console import Console
from raisekeys.effects import difference
from raisekeys.groups import group_plan
from raisekeys.logs import Log
from raisekeys.orders import alike, wish_of
from raisekeys.pages import page, read_page
from raisekeys.plans import plan
from raisekeys.runs import run
from raisekeys.sessions import Session
from raisekeys.shortest import shortest, shortest_groups
from raisekeys.sights import seen, tiles
from raisekeys.stories import demands, least_start
from raisekeys.texts import format_script, parse_script
from raisekeys.wishes import keeps


class Runs(Case):
    def test_plans_and_group_plans_to_another_order(self):
        source = random.Random(1)
        for number in range(80):
            desk = drawn_desk(source, source.choice((1, 3, 6, 12, 24)), source.choice((3, 8)))
            order, goal = drawn_order(source, desk), drawn_order(source, desk)
            wish = wish_of(desk, goal)
            for found in (plan(order, wish), group_plan(order, wish)):
                last, reached = run(desk, order, found[1])
                self.assertEqual(last, desk)
                self.assertTrue(alike(desk, reached, goal))
                self.assertTrue(keeps(reached, wish))
            self.assertLessEqual(len(group_plan(order, wish)[1]), len(plan(order, wish)[1]))

    def test_shortest_scripts_from_drawn_orders(self):
        source = random.Random(2)
        for number in range(80):
            desk = drawn_desk(source, source.choice((1, 3, 6, 12)), source.choice((3, 8)))
            script = drawn_script(source, desk, 3, 5)
            for found in (shortest(desk, script), shortest_groups(desk, script)):
                if found[0] == "none":
                    continue
                self.assertIsNone(difference(desk, script, found[1]))
                for start in range(5):
                    order = drawn_order(source, desk)
                    one, other = run(desk, order, script), run(desk, order, found[1])
                    self.assertEqual(one[0], other[0])
                    self.assertTrue(alike(one[0], one[1], other[1]))

    def test_plans_to_what_a_story_demands(self):
        source = random.Random(3)
        for number in range(40):
            desk = drawn_desk(source, 6)
            start = drawn_order(source, desk)
            facts = [(rectangle[0], rectangle[1], name) for rectangle, name in tiles(desk, start)]
            events = [("see", facts[:5]), ("see", facts[5:])]
            wish = demands(desk, events)
            self.assertTrue(keeps(start, wish))
            order = drawn_order(source, desk)
            for found in (plan(order, wish), group_plan(order, wish)):
                reached = run(desk, order, found[1])[1]
                self.assertEqual([(x, y, seen(desk, reached, x, y)) for x, y, name in facts], facts)
            first = least_start(desk, events)
            self.assertEqual([(x, y, seen(desk, first, x, y)) for x, y, name in facts], facts)


class Logs(Case):
    def drawn(self, seed):
        """Logs of drawn desks, with struck entries among them."""
        source = random.Random(seed)
        for number in range(30):
            desk = drawn_desk(source, source.choice((1, 3, 6, 24)))
            yield source, drawn_log(source, desk, drawn_order(source, desk), source.choice((0, 3, 12)))

    def check_same(self, one, other):
        self.assertEqual(one, other)
        self.assertEqual((one.entries(), one.state(), page(one)), (other.entries(), other.state(), page(other)))

    def test_logs_made_anew_from_their_entries_in_another_order(self):
        for source, log in self.drawn(4):
            rows = source.sample(log.entries(), len(log))
            self.check_same(made_log(rows, log.desk(), log.order()), log)

    def test_logs_merged_from_logs_of_one_entry(self):
        for source, log in self.drawn(5):
            found = Log(log.desk(), log.order())
            for row in source.sample(log.entries(), len(log)):
                found.merge(made_log([row], log.desk(), log.order()))
            self.check_same(found, log)

    def test_pages_as_console_lines(self):
        for source, log in self.drawn(6):
            console = Console(Session(Log(log.desk(), log.order())))
            rows = page(log).splitlines()[len(log.desk()):]
            for row in source.sample(rows, len(rows)):
                word, number, user, *step = row.split(" ")
                self.assertEqual(console.execute(row), "unknown")
                self.assertEqual(console.execute(" ".join(["add", number, user, *step])), "ok")
                if word == "struck":
                    self.assertEqual(console.execute(f"strike {number} {user}"), "ok")
            self.check_same(console.session().log(), log)
            self.assertEqual(console.execute("order"), " ".join(log.state()[1]))
            for name in log.desk().names():
                self.assertEqual(console.execute(f"rectangle {name}"), " ".join(map(str, log.state()[0].rectangle(name))))
            for stamp, step, struck in log.entries():
                self.assertEqual(console.execute(f"idle {stamp[0]} {stamp[1]}"), "no" if log.matters(stamp) else "yes")

    def test_sessions_made_anew_from_the_page_of_their_log(self):
        for source, log in self.drawn(7):
            session = Session(log)
            session.do_all([("strike", row[0]) for row in log.entries()[::2]])
            session.do(("merge", drawn_log(random.Random(8), log.desk(), log.order(), 0)))
            anew = Session(read_page(page(session.log())))
            self.assertEqual(anew, session)
            self.assertEqual((anew.desk(), anew.order(), len(anew)), (session.desk(), session.order(), len(session)))
            self.assertEqual(anew.turns(), (0, 0))

    def test_the_state_of_a_log_is_that_of_its_script(self):
        for source, log in self.drawn(9):
            steps = [step for stamp, step, struck in log.entries() if not struck]
            self.assertEqual(run(log.desk(), log.order(), steps), log.state())
            self.assertEqual(parse_script(format_script(steps)), steps)

    def test_fewest_moves_of_a_console_lead_to_the_order(self):
        for source, log in self.drawn(10):
            console = Console(Session(log))
            desk, order = log.state()
            goal = drawn_order(source, desk)
            wish = wish_of(desk, goal)
            for at, found in enumerate((plan(order, wish), group_plan(order, wish))):
                self.assertEqual(console.execute(" ".join(["fewest", *goal])).split(" ")[at], str(len(found[1])))
                twin = Console(console.session().twin())
                for number, row in enumerate(format_script(found[1]).splitlines()):
                    self.assertEqual(twin.execute(f"add {1000 + number} ann {row}"), "ok")
                self.assertTrue(alike(desk, twin.session().order(), goal))
                self.assertEqual(twin.execute(" ".join(["fewest", *goal])), "0 0")


if __name__ == "__main__":
    unittest.main()
