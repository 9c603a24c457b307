"""[18] Set pairs, windows that are left together, lifts, climbs and the shortest scripts."""

import inspect
import itertools
import random
import unittest

from helpers import Case, drawn_desk, drawn_rectangle, drawn_script, naive_run, pile_of, row_of, scripts_are_alike
from raisekeys.desks import Desk
from raisekeys.effects import difference, effect
from raisekeys.errors import BadStep, TooLong
from raisekeys.groups import steps_for
from raisekeys.shortest import climb_count, is_lift, shortest, shortest_groups

DESK = Desk({"a": (0, 0, 2, 2), "b": (1, 0, 3, 2), "c": (0, 1, 3, 3)})
EVERY = (shortest, shortest_groups, lambda desk, steps: is_lift(desk, steps, ["a", "b"]),
         lambda desk, steps: climb_count(desk, steps, ["a"]))


def reached_words(count, groups):
    """What scripts of raise and lower steps of these groups do to every two windows: all of it, with the fewest steps.

    What a script does is a tuple with the words of the windows 0 and 1, 0 and 2, .., 1 and 2 and so on.
    """
    pairs = list(itertools.combinations(range(count), 2))
    start = ("left",) * len(pairs)
    found, reached = {start: 0}, [start]
    while reached:
        words = reached.pop(0)
        for over, group in itertools.product((True, False), groups):
            after = tuple(word if (one in group) == (other in group) else "over" if (one in group) == over else "under"
                          for word, (one, other) in zip(words, pairs))
            if after not in found:
                found[after] = found[words] + 1
                reached.append(after)
    return found


def all_groups(count):
    return [group for size in range(1, count) for group in itertools.combinations(range(count), size)]


SINGLE = {count: reached_words(count, [(at,) for at in range(count)]) for count in range(1, 6)}
GROUPS = {count: reached_words(count, all_groups(count)) for count in range(1, 6)}


def naive_effect(desk, steps):
    """A dict of the windows (one, other) that overlap after a script to their words, by two runs."""
    names = desk.names()
    last, first = naive_run(desk, names, steps)
    second = naive_run(desk, names[::-1], steps)[1]
    found = {}
    for one, other in itertools.combinations(names, 2):
        if last.overlap(one, other):
            ends = [order.index(one) > order.index(other) for order in (first, second)]
            found[(one, other)] = "left" if ends[0] != ends[1] else "over" if ends[0] else "under"
    return found


def fewest(desk, steps, reached):
    """The fewest steps that do to the overlapping windows what the script does, or None if there are none."""
    words = naive_effect(desk, steps)
    pairs = list(itertools.combinations(desk.names(), 2))
    numbers = [number for found, number in reached[len(desk)].items()
               if all(words.get(pair, word) == word for pair, word in zip(pairs, found))]
    return min(numbers, default=None)


def set_and_left_pairs(desk, steps):
    """The set pairs of a script, and the windows that are left together, both ways."""
    words = naive_effect(desk, steps)
    sets = {(one, other) if word == "under" else (other, one) for (one, other), word in words.items() if word != "left"}
    left = {pair for pair, word in words.items() if word == "left"}
    return sets, left | {(other, one) for one, other in left}


def moved_windows(desk, steps):
    last = naive_run(desk, desk.names(), steps)[0]
    return [name for name in desk.names() if last.rectangle(name) != desk.rectangle(name)]


def drawn_moves(source, names, count):
    """So many raise and lower steps of some, but not all of the windows."""
    return [(source.choice(("raise", "lower")), source.sample(names, source.randint(1, max(1, len(names) - 1))))
            for number in range(count)]


def drawn_shortening(source, count):
    """A desk and a script, with nested scripts and place steps or with moves only."""
    desk = drawn_desk(source, count, source.choice((3, 4, 8)))
    if source.random() < 0.5:
        return desk, drawn_script(source, desk, source.choice((1, 3)), source.choice((1, 3, 6)))
    return desk, drawn_moves(source, desk.names(), source.choice((0, 1, 2, 3, 5, 8)))


class ShortCase(Case):
    def split(self, desk, steps, found):
        """The moves of a script that was found; its place steps are those that are needed and no others."""
        self.assertTrue(all(type(step) is tuple for step in found))
        moves = [step for step in found if step[0] in ("raise", "lower")]
        places = [step for step in found if step[0] == "place"]
        self.assertEqual(len(moves) + len(places), len(found))
        self.assertEqual(sorted(step[1] for step in places), moved_windows(desk, steps))
        self.assertTrue(all(type(step[1]) is list and step[1] for step in moves))
        self.assertIsNone(difference(desk, steps, found), (steps, found))
        return moves

    def check_single(self, desk, steps):
        """Everything that can be told of the result without a search. The number of single moves, or None."""
        found = self.answer(shortest, desk, steps)
        sets, left = set_and_left_pairs(desk, steps)
        bound = {one for one, other in left}
        lifts = [found[1]] if found[0] == "none" else found[2]
        for lift in lifts:
            self.assertTrue(type(lift) is list and len(lift) > 1 and set(zip(lift, lift[1:])) <= sets, lift)
            self.assertIs(is_lift(desk, steps, lift), True)
        if found[0] == "none":
            self.assertEqual(len(found), 2)
            self.assertTrue({lifts[0][0], lifts[0][-1]} <= bound, (lifts, bound))
            return None
        self.assertEqual((found[0], len(found), type(lifts)), ("script", 3, list))
        moves = self.split(desk, steps, found[1])
        self.assertTrue(all(len(names) == 1 for word, names in moves))
        self.assertFalse({names[0] for word, names in moves} & bound)
        self.assertEqual(len(lifts), len(moves))
        for at in (0, -1):
            ends = [lift[at] for lift in lifts if lift[at] not in bound]
            self.assertEqual(len(set(ends)), len(ends), (at, lifts))
        return len(moves)

    def check_groups(self, desk, steps):
        """Everything that can be told of the result without a search. The number of raise and lower steps."""
        kind, script, climb = self.answer(shortest_groups, desk, steps)
        self.assertEqual((kind, type(climb)), ("script", list))
        moves = self.split(desk, steps, script)
        sets, left = set_and_left_pairs(desk, steps)
        pairs = list(zip(climb, climb[1:]))
        self.assertTrue(set(pairs) <= sets | left, climb)
        count = len([pair for pair in pairs if pair in sets])
        self.assertEqual(climb == [], count == 0)
        if climb:
            self.assertEqual(climb_count(desk, steps, climb), count)
        self.assertEqual(len(moves), steps_for(count))
        return len(moves)


class Examples(ShortCase):
    def test_groups_that_go_together(self):
        script = [("raise", ["a", "b"]), ("raise", ["c"]), ("raise", ["a", "b"])]
        found = self.answer(shortest, DESK, script)
        self.assertEqual(found[:2], ("script", [("lower", ["c"])]))
        self.assertIn(found[2], ([["c", "a"]], [["c", "b"]]))
        self.assertEqual(self.check_groups(DESK, script), 1)

    def test_the_empty_script_and_scripts_that_do_nothing(self):
        for script in ([], [("raise", ["a", "b", "c"])], [("repeat", 0, [("raise", ["a"])])], [("repeat", 5, [])],
                       [("place", "a", (0, 0, 9, 9)), ("place", "a", (0, 0, 2, 2))]):
            self.assertEqual(self.answer(shortest, DESK, script), ("script", [], []))
            self.assertEqual(self.answer(shortest_groups, DESK, script), ("script", [], []))

    def test_one_window(self):
        desk = row_of(1)
        script = [("raise", ["a"]), ("place", "a", (5, 5, 6, 6))]
        for function in (shortest, shortest_groups):
            self.assertEqual(self.answer(function, desk, script), ("script", [("place", "a", (5, 5, 6, 6))], []))

    def test_none(self):
        desk = pile_of(4)
        script = [("raise", ["a", "b"])]
        found = self.answer(shortest, desk, script)
        self.assertEqual((found[0], len(found)), ("none", 2))
        self.assertIn(found[1], (["c", "a"], ["c", "b"], ["d", "a"], ["d", "b"]))
        self.assertEqual(self.check_groups(desk, script), 1)

    def test_none_by_a_long_lift(self):
        # The ends of the row are left together with other windows and do not overlap each other.
        desk = Desk({"a": (0, 0, 2, 1), "b": (1, 0, 4, 1), "c": (3, 0, 6, 1), "x": (0, 0, 1, 1), "y": (5, 0, 6, 1)})
        script = [("raise", ["b"]), ("raise", ["c", "y"])]
        self.assertEqual(self.answer(shortest, desk, script), ("none", ["a", "b", "c"]))
        self.assertEqual(self.check_groups(desk, script), 2)

    def test_windows_that_cannot_be_moved_may_end_several_lifts(self):
        desk = Desk({"a": (0, 0, 9, 1), "x": (0, 0, 9, 2), "c": (0, 0, 1, 1), "d": (3, 0, 4, 1), "e": (5, 0, 6, 1)})
        script = [("lower", ["c"]), ("lower", ["d"]), ("raise", ["e"])]
        self.assertEqual(self.check_single(desk, script), 3)
        self.assertTrue(all({lift[0], lift[-1]} & {"a", "x"} for lift in shortest(desk, script)[2]))

    def test_the_place_steps_that_are_needed(self):
        script = [("place", "a", (5, 5, 6, 6)), ("place", "b", (7, 7, 8, 8)), ("raise", ["c"]),
                  ("place", "a", (0, 0, 2, 2)), ("place", "b", (1, 0, 3, 1))]
        for function in (shortest, shortest_groups):
            found = self.answer(function, DESK, script)[1]
            self.assertEqual([step for step in found if step[0] == "place"], [("place", "b", (1, 0, 3, 1))])
        self.assertEqual((self.check_single(DESK, script), self.check_groups(DESK, script)), (1, 1))

    def test_windows_that_overlap_only_after_a_place_step(self):
        desk = Desk({"a": (0, 0, 1, 1), "b": (5, 5, 6, 6)})
        for word, expected in (("raise", ["b", "a"]), ("lower", ["a", "b"])):
            script = [(word, ["a"]), ("place", "b", (0, 0, 1, 1))]
            self.assertEqual(self.answer(shortest, desk, script)[2], [expected])
            self.assertEqual(self.answer(shortest_groups, desk, script)[2], expected)
            self.assertEqual((self.check_single(desk, script), self.check_groups(desk, script)), (1, 1))
            self.assertEqual((self.check_single(desk, script[:1]), self.check_groups(desk, script[:1])), (0, 0))
            apart = [*script, ("place", "b", (1, 0, 2, 1))]
            self.assertEqual((self.check_single(desk, apart), self.check_groups(desk, apart)), (0, 0))

    def test_repeats(self):
        inner = [("raise", ["a"]), ("lower", ["b"]), ("place", "c", (0, 0, 3, 3))]
        plain = (shortest(DESK, inner), shortest_groups(DESK, inner))
        for count in (1, 2, 10 ** 18):
            script = [("repeat", count, [("repeat", 3, inner), ("repeat", 0, [("raise", ["c"])])])]
            self.assertEqual((self.answer(shortest, DESK, script), self.answer(shortest_groups, DESK, script)), plain)

    def test_a_climb_through_windows_that_are_left_together(self):
        desk = Desk({"a": (0, 0, 2, 1), "b": (1, 0, 4, 1), "c": (3, 0, 6, 1), "d": (5, 0, 8, 1)})
        script = [("raise", ["b", "c"]), ("raise", ["d"])]
        self.assertEqual(self.answer(shortest_groups, desk, script)[2], ["a", "b", "c", "d"])
        self.assertEqual(climb_count(desk, script, ["a", "b", "c", "d"]), 2)
        self.assertEqual(self.check_groups(desk, script), 2)


class Small(ShortCase):
    def check_all(self, desk, script):
        expected = fewest(desk, script, SINGLE)
        self.assertEqual(self.check_single(desk, script), expected, script)
        many = fewest(desk, script, GROUPS)
        self.assertEqual(self.check_groups(desk, script), many, script)
        for function in (shortest, shortest_groups):
            found = function(desk, script)
            if found[0] == "script":
                self.assertTrue(scripts_are_alike(desk, script, found[1]))
        return expected, many

    def test_drawn_scripts_of_small_desks(self):
        source = random.Random(18)
        singles, groups = {}, {}
        for number in range(700):
            desk, script = drawn_shortening(source, source.choice((1, 2, 3, 4, 5, 5)))
            single, many = self.check_all(desk, script)
            singles[single] = singles.get(single, 0) + 1
            groups[many] = groups.get(many, 0) + 1
        self.assertGreater(min(singles[number] for number in (None, 0, 1, 2, 3)), 10, singles)
        self.assertGreater(min(groups[number] for number in (0, 1, 2)), 20, groups)

    def test_piles_with_all_short_scripts(self):
        desk = pile_of(3)
        names = [["a"], ["b"], ["c"], ["a", "b"], ["c", "a"]]
        steps = list(itertools.product(("raise", "lower"), names))
        for script in itertools.chain.from_iterable(itertools.product(steps, repeat=count) for count in range(3)):
            self.check_all(desk, list(script))

    def test_piles_of_four(self):
        source = random.Random(180)
        desk = pile_of(4)
        found = set()
        for number in range(150):
            found.add(self.check_all(desk, drawn_moves(source, desk.names(), source.randint(0, 6))))
        self.assertEqual(found, {(0, 0), (None, 1), (1, 1), (2, 2), (3, 2)})


class Large(ShortCase):
    def test_shortening_twice_changes_no_number(self):
        source = random.Random(181)
        kinds = {None: 0}
        for number in range(150):
            desk, script = drawn_shortening(source, source.choice((5, 9, 14)))
            single, many = self.check_single(desk, script), self.check_groups(desk, script)
            kinds[single] = kinds.get(single, 0) + 1
            for function in (shortest, shortest_groups):
                found = function(desk, script)
                if found[0] == "script":
                    self.assertEqual(self.check_single(desk, found[1]), single)
                    self.assertEqual(self.check_groups(desk, found[1]), many)
                    self.assertEqual(len(function(desk, found[1])[1]), len(found[1]))
        self.assertGreater(kinds[None], 10, kinds)
        self.assertGreater(sum(kinds.values()) - kinds[None], 50, kinds)

    def test_24_windows_all_in_one_place(self):
        names = list("abcdefghijklmnopqrstuvwx")
        desk = Desk({name: (0, 0, 1, 1) for name in names})
        upside_down = [("raise", [name]) for name in names[::-1]]
        self.assertEqual((self.check_single(desk, upside_down), self.check_groups(desk, upside_down)), (23, 5))
        self.assertEqual(shortest_groups(desk, upside_down)[2], names[::-1])
        self.assertEqual(self.check_single(desk, upside_down[:20]), 20)
        for count in (1, 2, 3, 7, 8, 15, 16):
            self.assertEqual(self.check_groups(desk, upside_down[:count]), count.bit_length())
        self.assertEqual(self.check_single(desk, [("raise", names[:12])]), None)

    def test_400_steps(self):
        source = random.Random(182)
        for span in (1, 40):
            desk = Desk({name: drawn_rectangle(source, span) if span > 1 else (0, 0, 1, 1) for name in row_of(24).names()})
            script = drawn_moves(source, desk.names(), 399) + [("place", "a", (0, 0, 5, 5))]
            self.check_single(desk, script)
            self.check_groups(desk, script)
            often = [("repeat", 10 ** 18, script[:399])]
            self.assertEqual(shortest(desk, often), shortest(desk, script[:399]))
            self.assertEqual(shortest_groups(desk, often), shortest_groups(desk, script[:399]))


class Claims(ShortCase):
    DESK = Desk({"a": (0, 0, 2, 1), "b": (1, 0, 4, 1), "c": (3, 0, 6, 1), "d": (5, 0, 8, 1), "e": (7, 0, 9, 1)})
    SCRIPT = [("raise", ["b", "c"]), ("raise", ["d"]), ("lower", ["e"]), ("place", "e", (6, 0, 8, 1))]

    def test_set_pairs_and_windows_left_together(self):
        self.assertEqual(effect(self.DESK, self.SCRIPT), [("a", "b", "under"), ("b", "c", "left"), ("c", "d", "under"),
                                                         ("d", "e", "over")])

    def check(self, names, lift, count):
        for given in (list(names), tuple(names)):
            self.assertIs(self.answer(is_lift, self.DESK, self.SCRIPT, given), lift, names)
            self.assertEqual(self.answer(climb_count, self.DESK, self.SCRIPT, given), count, names)

    def test_lists_along_the_pairs(self):
        self.check("ab", True, 1)
        self.check("cd", True, 1)
        self.check("ed", True, 1)
        self.check("bc", False, 0)
        self.check("cb", False, 0)
        self.check("abc", False, 1)
        self.check("bcd", False, 1)
        self.check("abcd", False, 2)
        self.check("abcbcd", False, 2)

    def test_lists_reversed_or_cut(self):
        for names in ("ba", "dc", "de", "dcba", "cba", "ac", "bd", "ad", "abd", "acd", "aab", "abb", "aa", "bb", "eda"):
            self.check(names, False, None)

    def test_one_window_and_the_empty_list(self):
        for name in "abcde":
            self.check([name], False, 0)
        self.check([], False, None)

    def test_unknown_windows(self):
        for names in (["x"], [""], ["A"], ["x", "a"], ["a", "x"], ["a", "b", "x"], ["x", "y"], ["x", "x"], ["ab"],
                      ["a b"], ["a\n"], ["a", "b", "c", "d", ""]):
            self.check(names, False, None)

    def test_lifts_of_several_pairs(self):
        desk = pile_of(4)
        script = [("raise", [name]) for name in "abcd"]
        for names in itertools.chain.from_iterable(itertools.product("abcdx", repeat=count) for count in range(5)):
            right = all(low < high for low, high in zip(names, names[1:])) and "x" not in names
            self.assertIs(is_lift(desk, script, list(names)), right and len(names) > 1)
            self.assertEqual(climb_count(desk, script, list(names)), len(names) - 1 if right and names else None)

    def test_every_short_list_of_drawn_scripts(self):
        source = random.Random(183)
        for number in range(40):
            desk, script = drawn_shortening(source, source.randint(2, 4))
            sets, left = set_and_left_pairs(desk, script)
            for count in range(4):
                for names in itertools.product([*desk.names(), "?"], repeat=count):
                    pairs = list(zip(names, names[1:]))
                    self.assertIs(is_lift(desk, script, names), count > 1 and set(pairs) <= sets)
                    climbs = count > 0 and "?" not in names and set(pairs) <= sets | left
                    expected = len([pair for pair in pairs if pair in sets]) if climbs else None
                    self.assertEqual(climb_count(desk, script, names), expected)

    def test_windows_that_overlap_only_at_the_start(self):
        desk = row_of(2)
        script = [("raise", ["a"]), ("place", "b", (50, 50, 51, 51))]
        self.assertIs(is_lift(desk, script[:1], ["b", "a"]), True)
        self.assertIs(is_lift(desk, script, ["b", "a"]), False)
        self.assertIsNone(climb_count(desk, script, ["b", "a"]))


class Errors(Case):
    DEEP = [("repeat", 1, [("repeat", 1, [("repeat", 1, [("repeat", 1, [("repeat", 1, [("repeat", 1, [])])])])])])]

    def test_too_long_comes_before_bad_step(self):
        for function in EVERY:
            self.refused(TooLong, {}, function, DESK, [("jump",)] * 401)
            self.refused(TooLong, {}, function, DESK, [("jump",), *self.DEEP])
            self.refused(TooLong, {}, function, DESK, [("repeat", 1, [("raise", ["x"])] * 400)])

    def test_bad_step(self):
        for wrong in (("jump",), ("raise", ["x"]), ("raise", []), ("lower", ["a", "a"]), ("place", "a", (1, 0, 0, 1)),
                      ("repeat", -1, []), ("repeat", 0, [("raise", ["a"]), ("raise", ["x"])]), ("see", [])):
            for function in EVERY:
                self.refused(BadStep, {"at": 1}, function, DESK, [("raise", ["a"]), wrong, ("jump",)])

    def test_errors_come_before_what_is_wrong_in_a_list(self):
        for names in ([], ["x"], ["a", "a"]):
            self.refused(BadStep, {"at": 0}, is_lift, DESK, [("jump",)], names)
            self.refused(BadStep, {"at": 0}, climb_count, DESK, [("jump",)], names)
            self.refused(TooLong, {}, is_lift, DESK, [("jump",)] * 401, names)
            self.refused(TooLong, {}, climb_count, DESK, [("jump",)] * 401, names)


class Arguments(Case):
    def test_by_name(self):
        script = [("raise", ["a"]), ("place", "b", (1, 1, 2, 2))]
        for function in (shortest, shortest_groups):
            self.assertEqual(self.answer(function, steps=script, desk=DESK), function(DESK, script))
            self.assertEqual(inspect.getfullargspec(function).args, ["desk", "steps"])
        self.assertIs(self.answer(is_lift, names=["b", "a"], steps=script, desk=DESK), True)
        self.assertEqual(self.answer(climb_count, names=["b", "a"], steps=script, desk=DESK), 1)
        for function in (is_lift, climb_count):
            self.assertEqual(inspect.getfullargspec(function).args, ["desk", "steps", "names"])

    def test_tuples_in_the_place_of_lists(self):
        script = [("raise", ["a", "b"]), ("repeat", 2, [("lower", ["a"])])]
        same = (("raise", ("a", "b")), ("repeat", 2, (("lower", ("a",)),)))
        for function in (shortest, shortest_groups):
            self.assertEqual(self.answer(function, DESK, same), function(DESK, script))


if __name__ == "__main__":
    unittest.main()
