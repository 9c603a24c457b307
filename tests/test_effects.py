"""[7] to [10] Effects, alike scripts, differences and idle steps."""

import itertools
import random
import unittest

from helpers import Case, all_orders, drawn_desk, drawn_script, drawn_step, drawn_steps, naive_run, pile_of, row_of
from helpers import scripts_are_alike
from raisekeys.desks import Desk
from raisekeys.effects import difference, effect, idle, is_difference
from raisekeys.errors import BadStep, TooLong

DESK = Desk({"a": (0, 0, 2, 2), "b": (1, 0, 3, 2), "c": (9, 9, 10, 10)})
UP_A, UP_B = ("raise", ["a"]), ("raise", ["b"])
DEEP = [("repeat", 1, [("repeat", 1, [("repeat", 1, [("repeat", 1, [("repeat", 1, [("repeat", 1, [])])])])])])]
WRONG_SCRIPTS = ((TooLong, {}, [("jump",)] * 401), (TooLong, {}, [("jump",), *DEEP]),
                 (BadStep, {"at": 1}, [UP_A, ("jump",), ("jump",)]), (BadStep, {"at": 0}, [("raise", ["x"])]),
                 (BadStep, {"at": 2}, [UP_A, UP_A, ("repeat", 0, [UP_A, ("raise", [])])]))


def is_a_difference(desk, one, other, claimed):
    """Whether a tuple is a difference, by the words of [8]."""
    names = desk.names()
    if claimed[0] == "rectangle" and len(claimed) == 2 and claimed[1] in names:
        ends = [naive_run(desk, names, script)[0].rectangle(claimed[1]) for script in (one, other)]
        return ends[0] != ends[1]
    if claimed[0] != "pair" or len(claimed) != 4 or sorted(claimed[3]) != names:
        return False
    word, low, high, start = claimed
    if low not in names or high not in names or low == high:
        return False
    first, second = naive_run(desk, start, one), naive_run(desk, start, other)
    return (first[0] == second[0] and first[0].overlap(low, high) and first[1].index(high) > first[1].index(low)
            and second[1].index(low) > second[1].index(high))


def drawn_pair_of_scripts(source, desk):
    """Two scripts that are often alike: the second one is drawn, or is the first one with a small change."""
    one = drawn_script(source, desk, 3)
    other = list(one)
    change = source.randrange(4)
    if change == 0:
        other = drawn_script(source, desk, 3)
    elif change == 1 and other:
        other.pop(source.randrange(len(other)))
    elif change == 2:
        other.insert(source.randint(0, len(other)), drawn_step(source, desk))
    elif len(other) > 1:
        at = source.randrange(len(other) - 1)
        other[at:at + 2] = [other[at + 1], other[at]]
    return one, other


class Effect(Case):
    def test_words(self):
        self.assertEqual(self.answer(effect, DESK, []), [("a", "b", "left")])
        self.assertEqual(self.answer(effect, DESK, [UP_A]), [("a", "b", "over")])
        self.assertEqual(self.answer(effect, DESK, [UP_B]), [("a", "b", "under")])
        self.assertEqual(self.answer(effect, DESK, [("lower", ["a"])]), [("a", "b", "under")])
        self.assertEqual(self.answer(effect, DESK, [("lower", ["b", "c"])]), [("a", "b", "over")])
        self.assertEqual(self.answer(effect, DESK, [UP_A, UP_B]), [("a", "b", "under")])

    def test_steps_that_part_nothing(self):
        for names in (["a", "b"], ["b", "a", "c"], ["c"]):
            for word in ("raise", "lower"):
                self.assertEqual(self.answer(effect, DESK, [(word, names)]), [("a", "b", "left")])
                self.assertEqual(self.answer(effect, DESK, [UP_A, (word, names)]), [("a", "b", "over")])

    def test_counts(self):
        for count, word in ((0, "left"), (1, "over"), (2, "over"), (10 ** 18, "over")):
            self.assertEqual(self.answer(effect, DESK, [("repeat", count, [UP_B, UP_A])]), [("a", "b", word)])

    def test_place_steps_after_which_other_windows_overlap(self):
        there = ("place", "c", (0, 0, 2, 1))
        away = ("place", "a", (50, 50, 51, 51))
        self.assertEqual(self.answer(effect, DESK, [("raise", ["c", "a"]), there]),
                         [("a", "b", "over"), ("a", "c", "left"), ("b", "c", "under")])
        self.assertEqual(self.answer(effect, DESK, [UP_A, there, away]), [("b", "c", "left")])
        self.assertEqual(self.answer(effect, DESK, [away, UP_A]), [])
        self.assertEqual(self.answer(effect, DESK, [away, UP_A, ("place", "a", (1, 0, 2, 1))]), [("a", "b", "over")])

    def test_against_two_runs_from_opposite_orders(self):
        source = random.Random(9)
        words = {"over": 0, "under": 0, "left": 0}
        for number in range(200):
            desk = drawn_desk(source, source.randint(1, 7))
            script = drawn_script(source, desk, 3)
            names = desk.names()
            last, first = naive_run(desk, names, script)
            second = naive_run(desk, names[::-1], script)[1]
            expected = []
            for one, other in itertools.combinations(names, 2):
                if last.overlap(one, other):
                    ends = [order.index(one) > order.index(other) for order in (first, second)]
                    word = "left" if ends[0] != ends[1] else "over" if ends[0] else "under"
                    expected.append((one, other, word))
                    words[word] += 1
            self.assertEqual(self.answer(effect, desk, script), expected)
        self.assertGreater(min(words.values()), 50)

    def test_24_windows_and_400_steps(self):
        desk = pile_of(24)
        found = self.answer(effect, desk, [("raise", [name]) for name in desk.names()] * 16 + [("lower", ["x"])] * 16)
        expected = [(one, other, "over" if other == "x" else "under") for one, other in desk.pairs()]
        self.assertEqual(found, [row if row[0] != "x" else ("x", row[1], "under") for row in expected])

    def test_errors(self):
        for error, attributes, script in WRONG_SCRIPTS:
            self.refused(error, attributes, effect, DESK, script)


class Difference(Case):
    def check(self, desk, one, other, expected):
        self.assertEqual(self.answer(difference, desk, one, other), expected)

    def test_alike_scripts(self):
        for one, other in (([], []), ([UP_A], [("lower", ["b"])]), ([UP_A, UP_B], [UP_B]), ([("raise", ["c"])], []),
                           ([("repeat", 5, [UP_A])], [UP_A]), ([("repeat", 0, [UP_A])], [("raise", ["a", "b"])]),
                           ([("place", "c", (5, 5, 6, 6)), ("place", "c", (9, 9, 10, 10))], [])):
            self.check(DESK, one, other, None)
            self.check(DESK, other, one, None)

    def test_a_rectangle(self):
        self.check(DESK, [("place", "c", (5, 5, 6, 6))], [], ("rectangle", "c"))
        self.check(DESK, [], [UP_A, ("place", "b", (5, 5, 6, 6))], ("rectangle", "b"))
        one, other = [("place", "c", (5, 5, 6, 6))], [("place", "c", (5, 5, 6, 7))]
        self.check(DESK, one, other, ("rectangle", "c"))

    def test_every_two_words_of_a_pair(self):
        scripts = {"over": [UP_A], "under": [UP_B], "left": []}
        for word, other_word in itertools.permutations(scripts, 2):
            one, other = scripts[word], scripts[other_word]
            found = self.answer(difference, DESK, one, other)
            self.assertEqual(found[0], "pair")
            self.assertEqual([type(item) for item in found], [str, str, str, list])
            self.assertTrue(is_a_difference(DESK, one, other, found), (word, other_word, found))
            self.assertIs(self.answer(is_difference, DESK, one, other, found), True)

    def test_windows_that_overlap_only_after_the_scripts(self):
        there = ("place", "c", (0, 0, 1, 1))
        one, other = [("raise", ["c"]), there], [there]
        found = self.answer(difference, DESK, one, other)
        self.assertTrue(is_a_difference(DESK, one, other, found))
        self.assertEqual(found[1:3], ("a", "c"))
        self.check(DESK, [("raise", ["c"])], [], None)

    def test_drawn_scripts_from_all_orders_of_small_desks(self):
        source = random.Random(8)
        kinds = {None: 0, "rectangle": 0, "pair": 0}
        for number in range(600):
            desk = drawn_desk(source, source.randint(1, 4), 4)
            one, other = drawn_pair_of_scripts(source, desk)
            found = difference(desk, one, other)
            self.assertEqual(found is None, scripts_are_alike(desk, one, other), (one, other))
            kinds[found and found[0]] += 1
            if found is not None:
                self.assertTrue(is_a_difference(desk, one, other, found), (one, other, found))
                self.assertIs(is_difference(desk, one, other, found), True)
        self.answer(difference, desk, one, other)
        self.assertGreater(min(kinds.values()), 50)

    def test_equal_effects_and_rectangles_mean_alike(self):
        source = random.Random(88)
        for number in range(200):
            desk = drawn_desk(source, source.randint(2, 24))
            one, other = drawn_pair_of_scripts(source, desk)
            same = (naive_run(desk, desk.names(), one)[0] == naive_run(desk, desk.names(), other)[0]
                    and effect(desk, one) == effect(desk, other))
            found = difference(desk, one, other)
            self.assertEqual(found is None, same)
            self.assertTrue(same or is_a_difference(desk, one, other, found))

    def test_errors_of_the_first_script_come_first(self):
        for error, attributes, script in WRONG_SCRIPTS:
            for right in ([], [UP_A], [("place", "c", (5, 5, 6, 6))]):
                self.refused(error, attributes, difference, DESK, script, right)
                self.refused(error, attributes, difference, DESK, right, script)
                self.refused(error, attributes, is_difference, DESK, script, right, ("rectangle", "c"))
                self.refused(error, attributes, is_difference, DESK, right, script, ("pair",))
            for second in WRONG_SCRIPTS:
                self.refused(error, attributes, difference, DESK, script, second[2])
                self.refused(error, attributes, is_difference, DESK, script, second[2], ("rectangle", "x"))


class IsDifference(Case):
    def check(self, one, other, claimed, expected, desk=DESK):
        self.assertIs(self.answer(is_difference, desk, one, other, claimed), expected, claimed)

    def test_every_claim_about_drawn_scripts(self):
        source = random.Random(18)
        right = 0
        for number in range(150):
            desk = drawn_desk(source, source.randint(1, 3), 4)
            one, other = drawn_pair_of_scripts(source, desk)
            names = [*desk.names(), "x"]
            claims = [("rectangle", name) for name in names]
            claims.extend(("pair", low, high, start) for low, high in itertools.product(names, repeat=2)
                          for start in all_orders(desk.names()) + all_orders(names[:-2]) + [names])
            for claimed in claims:
                expected = is_a_difference(desk, one, other, claimed)
                self.assertIs(is_difference(desk, one, other, claimed), expected, (one, other, claimed))
                right += expected
        self.assertGreater(right, 50)

    def test_altered_rectangles(self):
        one, other = [("place", "c", (5, 5, 6, 6))], [UP_A]
        self.check(one, other, ("rectangle", "c"), True)
        self.check(other, one, ("rectangle", "c"), True)
        for claimed in (("rectangle", "a"), ("rectangle", "x"), ("rectangle", ""), ("rectangle",), ("Rectangle", "c"),
                        ("pair", "c"), ("", "c"), ("c", "rectangle"), ("rectangle", "c", "c"), ("rectangle", "c", ["c"]),
                        ("rectangle", ["c"]), (), ("c",), ("rectangle", "c", "a", ["a", "b", "c"])):
            self.check(one, other, claimed, False)

    def test_altered_pairs(self):
        one, other = [UP_A], []
        start = ["c", "a", "b"]
        self.check(one, other, ("pair", "b", "a", start), True)
        self.check(one, other, ("pair", "b", "a", tuple(start)), True)
        for claimed in (("rectangle", "b", "a", start), ("Pair", "b", "a", start), ("", "b", "a", start),
                        ("pair", "a", "b", start), ("pair", "a", "a", start), ("pair", "b", "b", start),
                        ("pair", "c", "a", start), ("pair", "b", "c", start), ("pair", "x", "a", start),
                        ("pair", "b", "x", start), ("pair", "b", "a", ["c", "b", "a"]), ("pair", "b", "a", ["a", "b"]),
                        ("pair", "b", "a", []), ("pair", "b", "a", ["a", "b", "c", "c"]), ("pair", "b", "a", ["a", "b", "x"]),
                        ("pair", "b", "a", ["a", "a", "b"]), ("pair", "b", "a"), ("pair", "b", start), ("pair", start),
                        ("pair",), ("pair", "b", "a", start, start), ("pair", "b", "a", "c", start),
                        ("pair", "b", "a", "abc"), ("pair", "b", ["a"], start), ("pair", start, "a", start),
                        ("b", "a", start), ()):
            self.check(one, other, claimed, False)

    def test_the_other_way_round(self):
        start = ["c", "a", "b"]
        self.check([], [UP_A], ("pair", "a", "b", start), True)
        self.check([], [UP_A], ("pair", "b", "a", start), False)
        self.check([UP_B], [UP_A], ("pair", "a", "b", start), True)
        self.check([UP_B], [UP_A], ("pair", "a", "b", start[::-1]), True)

    def test_no_pair_if_a_rectangle_is_different(self):
        away = ("place", "c", (5, 5, 6, 6))
        self.check([UP_A, away], [], ("pair", "b", "a", ["c", "a", "b"]), False)
        self.check([UP_A, away], [away], ("pair", "b", "a", ["c", "a", "b"]), True)

    def test_windows_that_do_not_overlap_after_the_first_script(self):
        away = ("place", "a", (5, 5, 6, 6))
        self.check([UP_A, away], [away], ("pair", "b", "a", ["c", "a", "b"]), False)
        there = ("place", "c", (0, 0, 1, 1))
        self.check([("raise", ["c"]), there], [there], ("pair", "a", "c", ["c", "a", "b"]), True)
        self.check([("raise", ["c"])], [], ("pair", "a", "c", ["c", "a", "b"]), False)


class Idle(Case):
    def check(self, steps, expected, desk=DESK):
        self.assertEqual(self.answer(idle, desk, steps), expected)

    def test_moves(self):
        self.check([], [])
        self.check([UP_A], [])
        self.check([("raise", ["c"])], [0])
        self.check([("raise", ["a", "b"])], [0])
        self.check([UP_A, UP_B], [0])
        self.check([UP_B, UP_A, ("raise", ["a", "b"])], [0, 2])

    def test_steps_that_are_idle_one_by_one_but_not_together(self):
        self.check([UP_A, UP_A], [0, 1])
        self.check([UP_A, ("lower", ["b"])], [0, 1])
        self.check([UP_A, UP_A, UP_A], [0, 1, 2])
        self.assertIsNotNone(difference(DESK, [UP_A, UP_A], []))

    def test_a_step_between_that_puts_them_otherwise(self):
        self.check([UP_A, UP_B, UP_A], [0, 1])
        self.check([UP_A, UP_B, UP_B], [0, 1, 2])

    def test_a_step_that_parts_several_windows(self):
        desk = row_of(3)
        self.check([("raise", ["b"]), ("lower", ["a"])], [1], desk)
        self.check([("lower", ["a"]), ("raise", ["b"])], [0], desk)
        self.check([("lower", ["a", "c"]), ("raise", ["b"])], [0, 1], desk)

    def test_place_steps(self):
        there, elsewhere, back = (("place", "c", (0, 0, 1, 1)), ("place", "c", (5, 5, 6, 6)), ("place", "c", (9, 9, 10, 10)))
        self.check([there], [])
        self.check([back], [0])
        self.check([there, elsewhere], [0])
        self.check([there, there], [0, 1])
        self.check([there, back], [0])
        self.check([back, there, back], [0, 1])
        self.check([elsewhere, UP_A, elsewhere, ("place", "b", (5, 5, 6, 6))], [0, 1, 2])

    def test_windows_overlap_at_the_end_or_not(self):
        there = ("place", "c", (0, 0, 1, 1))
        away = ("place", "a", (50, 50, 51, 51))
        self.check([("raise", ["c"]), there], [])
        self.check([there, ("raise", ["c"])], [])
        self.check([there, ("raise", ["c"]), ("place", "c", (9, 9, 10, 10))], [0, 1])
        self.check([UP_A, away], [0])

    def test_against_the_script_without_each_one_step(self):
        source = random.Random(10)
        counts = [0, 0]
        for number in range(250):
            desk = drawn_desk(source, source.randint(1, 4), 4)
            steps = drawn_steps(source, desk, 6)
            if steps and source.random() < 0.5:
                steps.insert(source.randint(0, len(steps)), source.choice(steps))
            expected = [at for at in range(len(steps)) if scripts_are_alike(desk, steps, steps[:at] + steps[at + 1:])]
            self.assertEqual(idle(desk, steps), expected, steps)
            self.assertEqual(idle(desk, tuple(steps)), expected, steps)
            counts[0] += len(expected)
            counts[1] += len(steps) - len(expected)
        self.assertGreater(min(counts), 50)

    def test_24_windows_and_400_steps(self):
        source = random.Random(100)
        desk = drawn_desk(source, 24, 9)
        steps = [drawn_step(source, desk, 9) for number in range(400)]
        found = self.answer(idle, desk, steps)
        for at in range(0, 400, 7):
            is_idle = difference(desk, steps, steps[:at] + steps[at + 1:]) is None
            self.assertIs(at in found, is_idle)
        self.assertEqual(idle(desk, [UP_A] * 400), list(range(400)))

    def test_too_long(self):
        self.refused(TooLong, {}, idle, DESK, [UP_A] * 401)
        self.refused(TooLong, {}, idle, DESK, [("jump",)] * 401)
        self.refused(TooLong, {}, idle, DESK, [("jump",), *DEEP])
        self.refused(TooLong, {}, idle, DESK, [("jump",), ("repeat", 1, [UP_A] * 399)])

    def test_a_repeated_script_is_refused(self):
        for step in (("repeat", 1, [UP_A]), ("repeat", 0, []), ("repeat", 2, [("jump",)]), ("repeat",)):
            self.refused(BadStep, {"at": 0}, idle, DESK, [step])
            self.refused(BadStep, {"at": 2}, idle, DESK, [UP_A, UP_B, step, ("jump",)])
        self.refused(BadStep, {"at": 0}, idle, DESK, [("jump",), ("repeat", 1, [UP_A])])

    def test_wrong_steps(self):
        for wrong in (("jump", ["a"]), ("raise", []), ("raise", ["x"]), ("lower", ["a", "a"]), ("place", "x", (0, 0, 1, 1)),
                      ("place", "a", (0, 0, 0, 1)), ("raise",), ("raise", "a")):
            self.refused(BadStep, {"at": 1}, idle, DESK, [UP_A, wrong, ("jump",)])


class Arguments(Case):
    def test_by_name(self):
        self.assertEqual(self.answer(effect, steps=[UP_A], desk=DESK), [("a", "b", "over")])
        self.assertEqual(self.answer(difference, other=[("place", "c", (5, 5, 6, 6))], one=[], desk=DESK), ("rectangle", "c"))
        claimed = ("pair", "b", "a", ["c", "a", "b"])
        self.assertIs(self.answer(is_difference, claimed=claimed, other=[], one=[UP_A], desk=DESK), True)
        self.assertIs(self.answer(is_difference, claimed=claimed, other=[UP_A], one=[], desk=DESK), False)
        self.assertEqual(self.answer(idle, steps=[UP_A, UP_A], desk=DESK), [0, 1])
        self.refused(BadStep, {"at": 0}, difference, DESK, other=[UP_A, ("jump",)], one=[("jump",)])

    def test_tuples_in_the_place_of_lists(self):
        one, other = (("raise", ("a",)), ("repeat", 2, (("raise", ("c",)),))), ()
        lists = [UP_A, ("repeat", 2, [("raise", ["c"])])]
        self.assertEqual(self.answer(effect, DESK, one), effect(DESK, lists))
        self.assertEqual(self.answer(difference, DESK, one, other), difference(DESK, lists, []))
        self.assertIs(self.answer(is_difference, DESK, one, other, difference(DESK, lists, [])), True)
        self.assertEqual(self.answer(idle, DESK, (("raise", ("a",)), ("raise", ("c",)))), [1])


if __name__ == "__main__":
    unittest.main()
