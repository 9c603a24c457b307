"""[6] and [7] What steps and scripts do."""

import itertools
import random
import unittest

from helpers import Case, all_orders, drawn_desk, drawn_order, drawn_script, drawn_step, drawn_steps, naive_run
from helpers import pile_of, row_of
from raisekeys.desks import Desk
from raisekeys.errors import BadOrder, BadStep, TooLong
from raisekeys.runs import run
from raisekeys.steps import flat

DESK = row_of(4)
ORDER = ["c", "a", "d", "b"]


def written_out(steps):
    """The plain steps of a script, those of each repeat as often as it says."""
    found = []
    for step in steps:
        found.extend(written_out(step[2]) * step[1] if step[0] == "repeat" else [step])
    return found


class Moves(Case):
    def check(self, steps, expected, order=None):
        self.assertEqual(self.answer(run, DESK, order or ORDER, steps), (DESK, expected))

    def test_no_steps(self):
        self.check([], ORDER)

    def test_raise(self):
        self.check([("raise", ["c"])], ["a", "d", "b", "c"])
        self.check([("raise", ["b"])], ["c", "a", "d", "b"])
        self.check([("raise", ["d", "c"])], ["a", "b", "c", "d"])
        self.check([("raise", ["b", "a", "c"])], ["d", "c", "a", "b"])
        self.check([("raise", ["a", "b", "c", "d"])], ORDER)

    def test_lower(self):
        self.check([("lower", ["b"])], ["b", "c", "a", "d"])
        self.check([("lower", ["c"])], ["c", "a", "d", "b"])
        self.check([("lower", ["b", "a"])], ["a", "b", "c", "d"])
        self.check([("lower", ["b", "d", "c"])], ["c", "d", "b", "a"])
        self.check([("lower", ["d", "c", "b", "a"])], ORDER)

    def test_the_order_of_the_names_does_not_matter(self):
        for word, expected in (("raise", ["a", "c", "d", "b"]), ("lower", ["c", "d", "b", "a"])):
            for names in itertools.permutations(["c", "d", "b"]):
                self.check([(word, list(names))], expected)
                self.check([(word, names)], expected)

    def test_one_step_after_another(self):
        self.check([("raise", ["a"]), ("lower", ["b"]), ("raise", ["c", "b"])], ["d", "a", "b", "c"])

    def test_all_orders_and_all_names(self):
        for order in all_orders("abcd"):
            for word, count in itertools.product(("raise", "lower"), range(1, 5)):
                for names in itertools.combinations("abcd", count):
                    steps = [(word, list(names))]
                    self.assertEqual(run(DESK, order, steps), naive_run(DESK, order, steps))


class Places(Case):
    def test_another_rectangle_and_the_same_order(self):
        found = self.answer(run, DESK, ORDER, [("place", "a", (5, 5, 6, 6))])
        self.assertEqual(found, (DESK.placed("a", (5, 5, 6, 6)), ORDER))
        self.assertIs(type(found[0]), Desk)

    def test_the_last_place_step_of_each_window_decides(self):
        steps = [("place", "a", (5, 5, 6, 6)), ("place", "b", (-9, -9, 9, 9)), ("raise", ["c"]), ("place", "a", (1, 1, 2, 2))]
        found = self.answer(run, DESK, ORDER, steps)
        self.assertEqual(found, (DESK.placed("a", (1, 1, 2, 2)).placed("b", (-9, -9, 9, 9)), ["a", "d", "b", "c"]))

    def test_its_own_rectangle(self):
        self.assertEqual(self.answer(run, DESK, ORDER, [("place", "a", DESK.rectangle("a"))]), (DESK, ORDER))

    def test_the_passed_desk_does_not_change(self):
        desk = row_of(3)
        run(desk, ["a", "b", "c"], [("place", "a", (50, 50, 51, 51)), ("repeat", 2, [("place", "b", (0, 0, 1, 1))])])
        self.assertEqual(desk, row_of(3))
        self.assertEqual(desk.pairs(), row_of(3).pairs())


class Repeats(Case):
    INNER = [("raise", ["c"]), ("place", "d", (0, 0, 90, 90)), ("lower", ["b", "d"]), ("raise", ["a", "c"])]

    def test_counts(self):
        once = naive_run(DESK, ORDER, self.INNER)
        self.assertEqual(self.answer(run, DESK, ORDER, [("repeat", 0, self.INNER)]), (DESK, ORDER))
        for count in (1, 2, 3, 10 ** 18):
            self.assertEqual(self.answer(run, DESK, ORDER, [("repeat", count, self.INNER)]), once)
        self.assertEqual(naive_run(DESK, ORDER, self.INNER * 2), once)

    def test_a_count_of_0_inside_or_around(self):
        inner = [("raise", ["c"]), ("repeat", 0, [("raise", ["a"])])]
        self.assertEqual(self.answer(run, DESK, ORDER, [("repeat", 2, inner)])[1], ["a", "d", "b", "c"])
        self.assertEqual(self.answer(run, DESK, ORDER, [("repeat", 0, [("repeat", 2, inner)])])[1], ORDER)

    def test_six_deep_with_the_greatest_counts(self):
        script = self.INNER
        for number in range(5):
            script = [("repeat", 10 ** 18, script)]
        self.assertEqual(self.answer(run, DESK, ORDER, script), naive_run(DESK, ORDER, self.INNER))

    def test_drawn_scripts_flat_and_written_out(self):
        source = random.Random(7)
        for number in range(200):
            desk = drawn_desk(source, source.randint(1, 6))
            order = drawn_order(source, desk)
            script = drawn_script(source, desk, 4)
            expected = naive_run(desk, order, script)
            self.assertEqual(self.answer(run, desk, order, script), expected)
            self.assertEqual(run(desk, order, flat(script)), expected)
            plain = written_out(script)
            if len(plain) <= 400:
                self.assertEqual(run(desk, order, plain), expected)

    def test_the_last_parting_step_decides(self):
        source = random.Random(77)
        for number in range(50):
            desk = drawn_desk(source, 5)
            start = drawn_order(source, desk)
            steps = drawn_steps(source, desk, 6)
            end = run(desk, start, steps)[1]
            for one, other in itertools.combinations(desk.names(), 2):
                is_over = start.index(one) > start.index(other)
                for step in steps:
                    if step[0] != "place" and (one in step[1]) != (other in step[1]):
                        is_over = (one in step[1]) == (step[0] == "raise")
                self.assertIs(end.index(one) > end.index(other), is_over)


class Long(Case):
    def test_400_steps_of_24_windows(self):
        source = random.Random(400)
        desk = pile_of(24)
        steps = [drawn_step(source, desk) for number in range(400)]
        order = drawn_order(source, desk)
        self.assertEqual(self.answer(run, desk, order, steps), naive_run(desk, order, steps))
        self.assertEqual(run(desk, order, [("repeat", 10 ** 18, steps[:399])]), naive_run(desk, order, steps[:399]))


class Errors(Case):
    LONG = [("jump",)] * 401
    DEEP = [("jump",), ("repeat", 1, [("repeat", 1, [("repeat", 1, [("repeat", 1, [("repeat", 1, [("repeat", 1, [])])])])])])]

    def test_bad_order_comes_first(self):
        for wrong in ([], ["a", "b", "c"], ["a", "b", "c", "c"], ["a", "b", "c", "x"], ["a", "b", "c", "d", "d"]):
            for steps in ([], [("raise", ["a"])], [("jump",)], self.LONG, self.DEEP):
                self.refused(BadOrder, {}, run, DESK, wrong, steps)

    def test_too_long_comes_before_bad_step(self):
        self.refused(TooLong, {}, run, DESK, ORDER, self.LONG)
        self.refused(TooLong, {}, run, DESK, ORDER, self.DEEP)

    def test_bad_step(self):
        for wrong in (("jump",), ("raise", ["x"]), ("raise", []), ("lower", ["a", "a"]), ("place", "a", (1, 0, 0, 1)),
                      ("repeat", -1, []), ("repeat", 1, [("raise", ["a"]), ("raise", ["x"])])):
            self.refused(BadStep, {"at": 1}, run, DESK, ORDER, [("place", "a", (5, 5, 6, 6)), wrong, ("jump",)])


class Arguments(Case):
    def test_by_name(self):
        found = self.answer(run, steps=[("raise", ["c"])], order=ORDER, desk=DESK)
        self.assertEqual(found, (DESK, ["a", "d", "b", "c"]))

    def test_tuples_in_the_place_of_lists(self):
        steps = (("raise", ("d", "c")), ("repeat", 2, (("lower", ("a",)),)))
        found = self.answer(run, DESK, tuple(ORDER), steps)
        self.assertEqual(found, (DESK, ["a", "b", "c", "d"]))
        self.assertIs(type(found), tuple)
        self.assertIs(type(self.answer(run, DESK, tuple(ORDER), ())[1]), list)


if __name__ == "__main__":
    unittest.main()
