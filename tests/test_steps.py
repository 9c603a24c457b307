"""[6] Steps, scripts, sizes, depths, nested scripts and plain steps."""

import random
import unittest

from helpers import Case, row_of
from raisekeys.errors import BadStep, TooLong
from raisekeys.steps import MOST_COUNT, MOST_DEPTH, MOST_SIZE, check_script, flat, script_size

DESK = row_of(3)
UP = ("raise", ["a"])
DOWN = ("lower", ["b", "c"])
PLACE = ("place", "c", (-5, 0, 5, 1))
RIGHT = (UP, DOWN, PLACE, ("raise", ["c", "a", "b"]), ("raise", ("a", "b")), ("lower", ("c",)),
         ("repeat", 0, []), ("repeat", 1, [UP]), ("repeat", 10 ** 18, [UP, DOWN, ("repeat", 0, [PLACE])]),
         ("repeat", 2, ()), ("repeat", 2, (UP, ("lower", ("a", "c")))))
WRONG_WORDS = (("jump", ["a"]), ("Raise", ["a"]), ("", ["a"]), ("raise ", ["a"]), ("a",), ("see", [(0, 0, "a")]))
WRONG_LENGTHS = (("raise",), ("raise", ["a"], ["b"]), ("lower",), ("lower", ["a"], 1), ("raise", "a", "b"), ("place",),
                 ("place", "a"), ("place", "a", (0, 0, 1, 1), 5), ("place", "a", 0, 0, 1, 1), ("repeat",),
                 ("repeat", 1), ("repeat", 1, [], []), ("repeat", []))
WRONG_NAMES = (("raise", []), ("lower", ()), ("raise", ["a", "a"]), ("lower", ["a", "b", "a"]), ("raise", ["x"]),
               ("lower", ["a", "x"]), ("raise", [""]), ("raise", "a"), ("raise", "abc"), ("lower", 1), ("raise", ["A"]),
               ("raise", [["a"]]), ("raise", [1]), ("raise", [("a",)]), ("lower", ("a", "a")), ("raise", (0, 0, 1, 1)),
               ("place", "x", (0, 0, 1, 1)), ("place", "", (0, 0, 1, 1)), ("place", ["a"], (0, 0, 1, 1)),
               ("place", 1, (0, 0, 1, 1)))
WRONG_RECTANGLES = (("place", "a", (0, 0, 0, 1)), ("place", "a", (0, 1, 1, 1)), ("place", "a", (1, 0, 0, 1)),
                    ("place", "a", (0, 0, 10 ** 9 + 1, 1)), ("place", "a", (0, -10 ** 9 - 1, 1, 1)),
                    ("place", "a", (0, 0, 1)), ("place", "a", (0, 0, 1, 1, 1)), ("place", "a", ()),
                    ("place", "a", [0, 0, 1, 1]), ("place", "a", "abcd"), ("place", "a", 5), ("place", "a", (0, 0, 1, "b")))
WRONG_COUNTS = (("repeat", -1, []), ("repeat", 10 ** 18 + 1, []), ("repeat", -1, [UP]), ("repeat", 10 ** 18 + 1, [UP]),
                ("repeat", "1", [UP]), ("repeat", [UP], 1), ("repeat", (), [UP]))
WRONG_NESTED = (("repeat", 1, 1), ("repeat", 1, "raise"), ("repeat", 1, "a"), ("repeat", 1, ["raise", ["a"]]), ("repeat", 1, UP),
                ("repeat", 1, [["raise", ["a"]]]), ("repeat", 1, [UP, "a"]), ("repeat", 1, [UP, ()]),
                ("repeat", 1, [()]), ("repeat", 1, [[]]), ("repeat", 0, [UP, 7]), ("repeat", 0, ((),)),
                ("repeat", 1, [(1, 2)]), ("repeat", 1, [(["raise"], ["a"])]))
WRONG = WRONG_WORDS + WRONG_LENGTHS + WRONG_NAMES + WRONG_RECTANGLES + WRONG_COUNTS + WRONG_NESTED


def wrapped(script, times, count=1):
    """The script as the only step of a repeat step, so many times."""
    for number in range(times):
        script = [("repeat", count, script)]
    return script


def drawn_script(source, depth):
    """A script that is at most so deep, its size, and its flat steps, counted while it is drawn."""
    script, size, plain = [], 0, []
    for number in range(source.randint(0, 4)):
        size += 1
        if depth > 1 and source.random() < 0.5:
            inner, inner_size, inner_plain = drawn_script(source, depth - 1)
            count = source.choice((0, 1, 2, 10 ** 18))
            script.append(("repeat", count, source.choice((list, tuple))(inner)))
            size += inner_size
            plain.extend(inner_plain if count else [])
        else:
            step = source.choice((UP, DOWN, PLACE))
            script.append(step)
            plain.append(step)
    return script, size, plain


class Constants(unittest.TestCase):
    def test_limits(self):
        self.assertEqual((MOST_SIZE, MOST_DEPTH, MOST_COUNT), (400, 6, 1000000000000000000))


class Size(Case):
    def test_plain_scripts(self):
        for count in (0, 1, 2, 400, 401):
            self.assertEqual(self.answer(script_size, [UP] * count), count)

    def test_nested_scripts(self):
        self.assertEqual(self.answer(script_size, [("repeat", 5, [])]), 1)
        self.assertEqual(self.answer(script_size, [("repeat", 5, ()), ("repeat", 0, [UP, DOWN]), UP]), 5)
        for times in range(7):
            self.assertEqual(self.answer(script_size, wrapped([UP, DOWN], times, 10 ** 18)), 2 + times)
            self.assertEqual(self.answer(script_size, wrapped([], times, 0)), times)

    def test_drawn_scripts(self):
        source = random.Random(6)
        for number in range(100):
            script, size, plain = drawn_script(source, 6)
            self.assertEqual(self.answer(script_size, script), size)
            self.assertEqual(self.answer(script_size, tuple(script)), size)

    def test_what_is_no_nested_script_does_not_count(self):
        for step in (("repeat",), ("repeat", 1), ("repeat", [UP, UP]), ("repeat", 1, [UP], [UP]), ("repeat", 1, 5),
                     ("repeat", 1, "abc"), ("repeat", 1, [UP, ()]), ("repeat", 1, [UP, "a"]), ("repeat", 1, [UP, [UP]]),
                     ("raise", 1, [UP, UP]), ("jump", 1, [UP]), ("place", "a", [UP]), ("repeat", [UP], 1)):
            self.assertEqual(self.answer(script_size, [UP, step]), 2, step)

    def test_wrong_steps_of_a_nested_script_count(self):
        self.assertEqual(self.answer(script_size, [("repeat", -1, [("jump",), (5,), ("repeat",)])]), 4)


class Flat(Case):
    def test_plain_steps(self):
        self.assertEqual(self.answer(flat, []), [])
        self.assertEqual(self.answer(flat, [UP, PLACE, DOWN, UP]), [UP, PLACE, DOWN, UP])

    def test_counts(self):
        for count, expected in ((0, []), (1, [UP, DOWN]), (2, [UP, DOWN]), (10 ** 18, [UP, DOWN])):
            self.assertEqual(self.answer(flat, [("repeat", count, [UP, DOWN])]), expected)
            self.assertEqual(self.answer(flat, [PLACE, ("repeat", count, [UP, DOWN]), PLACE]), [PLACE, *expected, PLACE])

    def test_a_count_of_0_around_or_inside(self):
        self.assertEqual(self.answer(flat, [("repeat", 0, [UP, ("repeat", 5, [DOWN])])]), [])
        self.assertEqual(self.answer(flat, [("repeat", 5, [UP, ("repeat", 0, [DOWN]), PLACE])]), [UP, PLACE])

    def test_empty_nested_scripts(self):
        self.assertEqual(self.answer(flat, [("repeat", 3, []), UP, ("repeat", 1, ()), ("repeat", 0, [])]), [UP])

    def test_six_deep(self):
        for times in range(6):
            self.assertEqual(self.answer(flat, wrapped([UP, DOWN], times, 7)), [UP, DOWN])
        self.assertEqual(self.answer(flat, wrapped(wrapped([UP], 2, 0), 3, 1)), [])

    def test_drawn_scripts(self):
        source = random.Random(66)
        for number in range(100):
            script, size, plain = drawn_script(source, 6)
            self.assertEqual(self.answer(flat, script), plain)
            self.assertEqual(self.answer(flat, tuple(script)), plain)

    def test_wrong_plain_steps_stay_as_they_are(self):
        script = [("raise",), ("lower", 5), ("raise", ("a",), 1), ("jump", ("a",)), ("place", ("a",))]
        self.assertEqual(self.answer(flat, [("repeat", 2, script)]), script)

    def test_names_are_returned_as_new_lists(self):
        script = [("raise", ("a", "b")), ("repeat", 1, (("lower", ("c",)), ("lower", ["a"])))]
        self.assertEqual(self.answer(flat, script), [("raise", ["a", "b"]), ("lower", ["c"]), ("lower", ["a"])])
        names = ["a", "b"]
        found = flat([("raise", names), ("repeat", 1, [("lower", names)])])
        found[0][1].append("c")
        self.assertEqual((names, found[1]), (["a", "b"], ("lower", ["a", "b"])))


class RightScripts(Case):
    def test_none_is_returned(self):
        self.assertIsNone(self.answer(check_script, DESK, []))
        for step in RIGHT:
            self.assertIsNone(self.answer(check_script, DESK, [step]), step)
            self.assertIsNone(self.answer(check_script, DESK, [("repeat", 1, (step,))]), step)
        self.assertIsNone(self.answer(check_script, DESK, list(RIGHT)))
        self.assertIsNone(self.answer(check_script, DESK, RIGHT))

    def test_rectangles_and_counts_at_their_bounds(self):
        most = 10 ** 9
        for step in (("place", "a", (-most, -most, most, most)), ("repeat", 0, [UP]), ("repeat", 10 ** 18, [UP])):
            self.assertIsNone(check_script(DESK, [step]))

    def test_drawn_scripts(self):
        source = random.Random(666)
        for number in range(100):
            script, size, plain = drawn_script(source, 6)
            if size <= 400:
                self.assertIsNone(self.answer(check_script, DESK, script))

    def test_windows_of_another_desk(self):
        for step in (("raise", ["d"]), ("lower", ["a", "d"]), ("place", "d", (0, 0, 1, 1)), ("repeat", 1, [("raise", ["d"])])):
            self.assertIsNone(check_script(row_of(4), [step]))
            self.refused(BadStep, {"at": 0}, check_script, DESK, [step])


class TooLongScripts(Case):
    def test_sizes_400_and_401(self):
        for script in ([UP] * 400, [("repeat", 1, [UP] * 399)], [("repeat", 0, [DOWN] * 199)] * 2,
                       wrapped([UP] * 395, 5), [UP] * 399 + [("repeat", 1, [])]):
            self.assertEqual(script_size(script), 400)
            self.assertIsNone(check_script(DESK, script))
            self.refused(TooLong, {}, check_script, DESK, script + [UP])
            self.refused(TooLong, {}, check_script, DESK, (UP, *script))

    def test_depths_6_and_7(self):
        for script in ([], [UP], [UP, DOWN]):
            for count in (0, 1, 10 ** 18):
                self.assertIsNone(check_script(DESK, wrapped(script, 5, count)))
                self.refused(TooLong, {}, check_script, DESK, wrapped(script, 6, count))
                self.refused(TooLong, {}, check_script, DESK, wrapped(script, 7, count))

    def test_only_one_of_many_branches_is_too_deep(self):
        self.refused(TooLong, {}, check_script, DESK, [UP, *wrapped([UP], 2), *wrapped([], 6), UP])
        self.assertIsNone(check_script(DESK, [UP, *wrapped([UP], 5), *wrapped([], 5), *wrapped([UP], 1)]))

    def test_a_repeat_without_a_nested_script_counts_like_one_with_an_empty_script(self):
        for wrong in (("repeat",), ("repeat", 1), ("repeat", 1, 5), ("repeat", 1, [UP, ()]), ("repeat", 1, [], []),
                      ("repeat", 1, wrapped([UP], 3) + [7])):
            self.refused(BadStep, {"at": 0}, check_script, DESK, wrapped([wrong], 4))
            self.refused(TooLong, {}, check_script, DESK, wrapped([wrong], 5))

    def test_too_long_comes_before_bad_step(self):
        for wrong in WRONG:
            self.refused(TooLong, {}, check_script, DESK, [wrong] + [UP] * 400)
            self.refused(TooLong, {}, check_script, DESK, [wrong, *wrapped([UP], 6)])
            self.refused(TooLong, {}, check_script, DESK, wrapped([wrong], 6))

    def test_what_is_no_nested_script_makes_nothing_longer(self):
        for wrong in (("repeat", 1, [UP] * 400 + [()]), ("jump", 1, [UP] * 400), ("repeat", 1, [UP] * 400, 1),
                      ("raise", [UP] * 400), ("repeat", [UP] * 400)):
            self.refused(BadStep, {"at": 399}, check_script, DESK, [UP] * 399 + [wrong])

    def test_nested_60_deep(self):
        self.refused(TooLong, {}, check_script, DESK, wrapped([UP], 59))
        self.assertEqual(self.answer(script_size, wrapped([UP], 59)), 60)
        self.assertEqual(self.answer(flat, wrapped([UP], 59)), [UP])
        deep = []
        for number in range(58):
            deep = [deep]
        self.refused(BadStep, {"at": 1}, check_script, DESK, [UP, ("raise", deep)])


class WrongSteps(Case):
    def test_each_wrong_step(self):
        for wrong in WRONG:
            self.refused(BadStep, {"at": 0}, check_script, DESK, [wrong])
            self.refused(BadStep, {"at": 2}, check_script, DESK, [UP, DOWN, wrong, UP, ("jump",)])
            self.refused(BadStep, {"at": 1}, check_script, DESK, (PLACE, wrong))

    def test_items_at_the_top_that_are_no_tuples_or_that_are_empty(self):
        for wrong in ((), [], "raise", 5, None, ["raise", ["a"]], ["place", "a", (0, 0, 1, 1)], ["repeat", 1, [UP]]):
            self.refused(BadStep, {"at": 1}, check_script, DESK, [UP, wrong, ("jump",)])

    def test_each_wrong_step_in_nested_scripts(self):
        for wrong in WRONG:
            for count in (0, 1, 10 ** 18):
                inner = ("repeat", count, [UP, DOWN, wrong, PLACE])
                self.refused(BadStep, {"at": 1}, check_script, DESK, [UP, inner, ("jump",)])
                self.refused(BadStep, {"at": 3}, check_script, DESK, [UP, UP, UP, *wrapped([UP, wrong], 4, count), inner])
                self.refused(BadStep, {"at": 0}, check_script, DESK, (("repeat", count, (wrong,)),))

    def test_the_first_wrong_step_of_the_script_at_the_top(self):
        script = [UP, ("repeat", 1, [UP]), ("repeat", 1, [UP, UP, UP, ("raise", ["x"])]), ("jump",), ("lower", [])]
        for count in range(2):
            self.refused(BadStep, {"at": 2 + count}, check_script, DESK, [UP] * count + script)
        self.refused(BadStep, {"at": 0}, check_script, DESK, script[2:])


class Arguments(Case):
    def test_by_name(self):
        self.assertIsNone(self.answer(check_script, steps=[UP], desk=DESK))
        self.assertEqual(self.answer(script_size, steps=[UP, ("repeat", 2, [UP])]), 3)
        self.assertEqual(self.answer(flat, steps=[("repeat", 2, [("raise", ("a",))])]), [("raise", ["a"])])
        self.refused(BadStep, {"at": 0}, check_script, steps=[("jump",)], desk=DESK)


if __name__ == "__main__":
    unittest.main()
