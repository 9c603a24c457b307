"""[19] and [20] Stories, contradictions, demands, the first starting order that fits, and sure pairs."""

import inspect
import itertools
import random
import unittest

from helpers import Case, all_orders, drawn_desk, drawn_order, drawn_rectangle, naive_run, pile_of, row_of
from raisekeys.desks import Desk
from raisekeys.errors import BadStep, BadWish, Impossible, Unknown
from raisekeys.rects import covers
from raisekeys.stories import contradiction, demands, least_start, sure

DESK = Desk({"a": (0, 0, 2, 2), "b": (1, 0, 3, 2), "c": (0, 1, 3, 3)})
UP = ("raise", ["a"])
SEE = ("see", [(0, 0, "a")])
EVERY = (contradiction, demands, least_start, lambda desk, events: sure(desk, events, "a", "b"))
WRONG = (("jump",), ("jump", ["a"]), ("See", []), ("", []), ("seen", []), ("repeat", 1, []), ("repeat", 1, [UP]),
         ("repeat", 0, [SEE]), ("see",), ("see", [], []), ("see", 0), ("see", "a"), ("see", 0, 0, "a"), ("see", None),
         ("raise",), ("raise", []), ("raise", ["x"]), ("raise", ["a"], ["b"]), ("raise", "a"), ("lower", ["a", "a"]),
         ("lower", ()), ("lower",), ("place",), ("place", "a"), ("place", "x", (0, 0, 1, 1)), ("place", "a", (0, 0, 0, 1)),
         ("place", "a", [0, 0, 1, 1]), ("place", "a", (0, 0, 1, 1), 1))


def top(desk, order, x, y):
    """The window that is seen, by the words of [11]."""
    found = [name for name in order if covers(desk.rectangle(name), x, y)]
    return found[-1] if found else None


def fits(desk, start, events):
    """Whether a starting order shows all facts of a story."""
    order = start
    for event in events:
        if event[0] == "see":
            if any(top(desk, order, x, y) != name for x, y, name in event[1]):
                return False
        else:
            desk, order = naive_run(desk, order, [event])
    return True


def fitting_starts(desk, events):
    return [start for start in all_orders(desk.names()) if fits(desk, start, events)]


def first_flaw(desk, events):
    """The first contradiction of a fact, by the words of [19], or None."""
    for at, event in enumerate(events):
        if event[0] == "place":
            desk = desk.placed(event[1], event[2])
        if event[0] != "see":
            continue
        for index, (x, y, name) in enumerate(event[1]):
            there = [other for other in desk.names() if covers(desk.rectangle(other), x, y)]
            if (there if name is None else name not in there):
                return "fact", at, index
            for low in there:
                before = [step for step in range(at) if low != name and events[step][0] in ("raise", "lower")
                          and (low in events[step][1]) != (name in events[step][1])]
                if before and (events[before[-1]][0] == "raise") == (low in events[before[-1]][1]):
                    return "step", at, index, low, before[-1]
    return None


def drawn_facts(source, desk, order):
    """Facts that the order shows, now and then with another window that covers the cell, or with any window."""
    found = []
    for number in range(source.randint(0, 4)):
        x, y = source.randint(-2, 3), source.randint(-2, 3)
        name = top(desk, order, x, y)
        if name is not None and source.random() < 0.5:
            name = source.choice([other for other in order if covers(desk.rectangle(other), x, y)])
        if source.random() < 0.015:
            name = source.choice([*desk.names(), None, "zzz"])
        found.append((x, y, name))
    return source.choice((list, tuple))(found)


def drawn_story(source, desk, most):
    """A story, told along one starting order or, now and then, along several."""
    now, order = desk, drawn_order(source, desk)
    found = []
    for number in range(source.randint(0, most)):
        if source.random() < 0.1:
            order = drawn_order(source, desk)
        if source.random() < 0.55:
            found.append(("see", drawn_facts(source, now, order)))
            continue
        names = source.choice((list, tuple))(source.sample(desk.names(), source.randint(1, len(desk))))
        step = (source.choice(("raise", "lower")), names)
        if source.random() < 0.3:
            step = ("place", source.choice(desk.names()), drawn_rectangle(source, 5))
        found.append(step)
        now, order = naive_run(now, order, [step])
    return found


class Contradictions(Case):
    def check(self, desk, events, expected):
        self.assertEqual(self.answer(contradiction, desk, events), expected)
        for function in (demands, least_start, lambda desk, events: sure(desk, events, "a", "b")):
            if expected is not None:
                self.refused(Impossible, {}, function, desk, events)

    def test_none(self):
        for events in ([], (), [("see", [])], [("see", ())], [UP], [UP, SEE], [SEE, UP], [("see", [(9, 9, None)])]):
            self.check(DESK, events, None)

    def test_facts_that_do_not_agree(self):
        self.check(DESK, [("see", [(9, 9, "a")])], ("fact", 0, 0))
        self.check(DESK, [("see", [(0, 0, None)])], ("fact", 0, 0))
        self.check(DESK, [("see", [(0, 0, "x")])], ("fact", 0, 0))
        self.check(DESK, [("see", [(9, 9, "x")])], ("fact", 0, 0))
        self.check(DESK, [("see", [(9, 9, "")])], ("fact", 0, 0))
        self.check(DESK, [SEE, UP, ("see", [(9, 9, None), (0, 0, "a"), (0, 0, "b"), (0, 0, "c")])], ("fact", 2, 2))

    def test_facts_that_do_not_agree_after_a_place_step(self):
        away = ("place", "a", (50, 50, 51, 51))
        self.check(DESK, [SEE, away, ("see", [(50, 50, "a"), (0, 0, None)])], None)
        self.check(DESK, [SEE, away, ("see", [(50, 50, "a"), (0, 0, "a")])], ("fact", 2, 1))
        self.check(DESK, [SEE, away, ("see", [(50, 50, None)])], ("fact", 2, 0))
        self.check(DESK, [SEE, away, ("place", "a", (0, 0, 2, 2)), SEE], None)
        self.check(DESK, [("see", [(50, 50, "a")]), away], ("fact", 0, 0))

    def test_steps(self):
        see = ("see", [(9, 9, None), (1, 0, "a")])
        self.check(DESK, [("raise", ["b"]), see], ("step", 1, 1, "b", 0))
        self.check(DESK, [("lower", ["a"]), see], ("step", 1, 1, "b", 0))
        self.check(DESK, [("lower", ["a", "c"]), ("raise", ["b", "a"]), see], ("step", 2, 1, "b", 0))
        self.check(DESK, [("raise", ["b"]), ("lower", ["b"]), see], None)
        self.check(DESK, [("raise", ["b"]), see, ("lower", ["b"])], ("step", 1, 1, "b", 0))
        self.check(DESK, [see, ("raise", ["b"])], None)
        self.check(DESK, [("lower", ["b"]), SEE, ("raise", ["b", "c"]), SEE, see], ("step", 4, 1, "b", 2))

    def test_the_last_step_that_parts_is_named(self):
        see = ("see", [(1, 0, "a")])
        steps = [("raise", ["b"]), ("lower", ["a"]), ("raise", ["b", "c"]), ("raise", ["c"]), ("raise", ["a", "b"])]
        self.check(DESK, [*steps, see], ("step", 5, 0, "b", 2))
        self.check(DESK, [*steps, SEE, ("see", []), see], ("step", 7, 0, "b", 2))

    def test_the_first_low_in_ascending_order(self):
        desk = pile_of(5)
        see = ("see", [(20, 20, "c")])
        self.check(desk, [("lower", ["c"]), see], ("step", 1, 0, "a", 0))
        self.check(desk, [("lower", ["c"]), ("lower", ["a"]), see], ("step", 2, 0, "b", 0))
        self.check(desk, [("lower", ["c"]), ("lower", ["b", "a"]), see], ("step", 2, 0, "d", 0))
        self.check(desk, [("raise", ["e"]), ("raise", ["b"]), see], ("step", 2, 0, "b", 1))
        self.check(desk, [("raise", ["b"]), ("raise", ["e"]), see], ("step", 2, 0, "b", 0))
        self.check(desk, [("raise", ["e", "d"]), see], ("step", 1, 0, "d", 0))

    def test_only_windows_that_cover_the_cell(self):
        desk = row_of(3)
        self.check(desk, [("raise", ["c", "b"]), ("see", [(0, 0, "a")])], None)
        self.check(desk, [("raise", ["c", "b"]), ("see", [(0, 0, "a"), (2, 0, "a")])], ("step", 1, 1, "b", 0))

    def test_steps_decide_also_before_windows_overlap(self):
        desk = Desk({"a": (0, 0, 1, 1), "b": (5, 5, 6, 6)})
        there = ("place", "b", (0, 0, 1, 1))
        self.check(desk, [("raise", ["b"]), there, ("see", [(0, 0, "a")])], ("step", 2, 0, "b", 0))
        self.check(desk, [there, ("see", [(0, 0, "a")]), ("raise", ["b"]), ("see", [(0, 0, "b")])], None)

    def test_the_first_event_and_in_it_the_first_fact(self):
        fact, step = (9, 9, "a"), (1, 0, "a")
        up = ("raise", ["b"])
        self.check(DESK, [up, ("see", [fact, step])], ("fact", 1, 0))
        self.check(DESK, [up, ("see", [step, fact])], ("step", 1, 0, "b", 0))
        self.check(DESK, [up, ("see", [(0, 0, "a")]), ("see", [step]), ("see", [fact])], ("step", 2, 0, "b", 0))
        self.check(DESK, [up, ("see", [(0, 0, "a"), fact]), ("see", [step])], ("fact", 1, 1))

    def test_a_ring(self):
        away = ("place", "c", (9, 9, 10, 10))
        for events in ([("see", [(1, 0, "a"), (1, 0, "b")])],
                       [("see", [(1, 0, "b")]), away, ("raise", ["b", "a"]), ("see", []), ("see", [(1, 0, "a")])]):
            found = self.answer(contradiction, DESK, events)
            self.assertEqual((found[0], len(found), sorted(found[1])), ("ring", 2, ["a", "b"]))
            for function in EVERY[1:]:
                self.refused(Impossible, {}, function, DESK, events)

    def test_a_ring_of_three(self):
        desk = Desk({"a": (0, 0, 2, 2), "b": (1, 0, 3, 2), "c": (0, 1, 3, 3)})
        low = {"a": (1, 0), "b": (2, 1), "c": (0, 1)}
        events = [("see", [(*low["a"], "a")]), ("see", [(*low["b"], "b"), (*low["c"], "c")])]
        found = self.answer(contradiction, desk, events)
        self.assertEqual((found[0], sorted(found[1])), ("ring", ["a", "b", "c"]))
        pairs = {("b", "a"), ("c", "b"), ("a", "c")}
        self.assertTrue(set(zip(found[1], found[1][1:] + found[1][:1])) <= pairs)
        for function in EVERY[1:]:
            self.refused(Impossible, {}, function, desk, events)

    def test_a_ring_only_if_there_is_nothing_else(self):
        both = ("see", [(1, 0, "a"), (1, 0, "b")])
        self.check(DESK, [both, ("see", [(9, 9, "a")])], ("fact", 1, 0))
        self.check(DESK, [both, ("raise", ["b"]), ("see", [(1, 0, "a")])], ("step", 2, 0, "b", 1))

    def test_what_steps_have_parted_demands_nothing_of_the_start(self):
        events = [("see", [(1, 0, "a")]), ("raise", ["b"]), ("see", [(1, 0, "b")]), ("lower", ["b"]), ("see", [(1, 0, "a")])]
        self.check(DESK, events, None)
        self.assertEqual(demands(DESK, events), [("b", "a")])
        self.assertEqual(demands(DESK, events[1:]), [])


class Drawn(Case):
    def test_against_all_starting_orders_of_small_desks(self):
        source = random.Random(19)
        kinds = {"fact": 0, "step": 0, "ring": 0, None: 0}
        for number in range(1500):
            desk = drawn_desk(source, source.choice((1, 2, 3, 4, 4, 5)), 5)
            events = source.choice((list, tuple))(drawn_story(source, desk, source.choice((4, 12))))
            found = self.answer(contradiction, desk, events)
            starts = fitting_starts(desk, events)
            kinds[found and found[0]] += 1
            self.assertEqual(found is None, starts != [], (events, found))
            if found is None:
                self.check_fitting(source, desk, events, starts)
                continue
            for function in (demands, least_start):
                self.refused(Impossible, {}, function, desk, events)
            if found[0] == "ring":
                self.assertIsNone(first_flaw(desk, events))
                self.assertTrue(len(set(found[1])) == len(found[1]) > 1)
            else:
                self.assertEqual(found, first_flaw(desk, events))
        self.assertGreater(min(kinds.values()), 25, kinds)

    def check_fitting(self, source, desk, events, starts):
        self.assertEqual(self.answer(least_start, desk, events), starts[0])
        wish = self.answer(demands, desk, events)
        self.assertEqual(wish, sorted(set(wish)))
        kept = [start for start in all_orders(desk.names())
                if all(start.index(low) < start.index(high) for low, high in wish)]
        self.assertEqual(kept, starts)
        steps = [event for event in events if event[0] != "see"]
        ends = [naive_run(desk, start, steps)[1] for start in starts]
        for one, other in itertools.permutations(desk.names(), 2):
            ways = {end.index(one) > end.index(other) for end in ends}
            expected = "open" if len(ways) == 2 else "over" if True in ways else "under"
            self.assertEqual(sure(desk, events, one, other), expected, (events, one, other))


class Demands(Case):
    def test_ascending_and_without_duplicates(self):
        desk = pile_of(4)
        events = [("see", [(20, 20, "b"), (20, 20, "b")]), UP, ("see", ()), ("raise", ["b"]), ("see", [(20, 20, "b")])]
        self.assertEqual(self.answer(demands, desk, events), [("a", "b"), ("c", "b"), ("d", "b")])
        self.assertEqual(self.answer(least_start, desk, events), ["a", "c", "d", "b"])

    def test_only_windows_that_cover_the_cell(self):
        self.assertEqual(self.answer(demands, row_of(4), [("see", [(2, 0, "b"), (4, 0, "b"), (0, 0, "a")])]),
                         [("a", "b"), ("c", "b")])

    def test_without_facts(self):
        for events in ([], [("see", [])], [UP], [("see", [(50, 50, None)])]):
            self.assertEqual(self.answer(demands, DESK, events), [])
            self.assertEqual(self.answer(least_start, DESK, events), ["a", "b", "c"])

    def test_the_rectangles_at_that_time_count(self):
        events = [("place", "c", (0, 0, 1, 1)), ("see", [(0, 0, "a")]), ("place", "c", (50, 50, 51, 51)),
                  ("see", [(0, 0, "a"), (50, 50, "c")])]
        self.assertEqual(self.answer(demands, DESK, events), [("c", "a")])


class Sure(Case):
    def test_by_steps(self):
        events = [("raise", ["c"])]
        self.assertEqual(self.answer(sure, DESK, events, "c", "a"), "over")
        self.assertEqual(self.answer(sure, DESK, events, "a", "c"), "under")
        self.assertEqual(self.answer(sure, DESK, events, "a", "b"), "open")

    def test_by_facts(self):
        events = [("see", [(1, 0, "a")])]
        self.assertEqual(self.answer(sure, DESK, events, "a", "b"), "over")
        self.assertEqual(self.answer(sure, DESK, events, "b", "a"), "under")
        self.assertEqual(self.answer(sure, DESK, events, "c", "a"), "open")

    def test_by_facts_through_other_windows(self):
        desk = row_of(4)
        events = [("see", [(2, 0, "b"), (4, 0, "c"), (6, 0, "d")])]
        for one, other in itertools.permutations("abcd", 2):
            self.assertEqual(self.answer(sure, desk, events, one, other), "over" if one > other else "under")

    def test_steps_come_after_facts(self):
        events = [("see", [(1, 0, "a")]), ("raise", ["b"])]
        self.assertEqual(self.answer(sure, DESK, events, "a", "b"), "under")
        self.assertEqual(self.answer(sure, DESK, [*events, ("raise", ["a", "b"])], "b", "a"), "over")

    def test_windows_that_do_not_overlap(self):
        desk = Desk({"a": (0, 0, 1, 1), "b": (5, 5, 6, 6)})
        self.assertEqual(self.answer(sure, desk, [("lower", ["b"])], "a", "b"), "over")
        self.assertEqual(self.answer(sure, desk, [], "a", "b"), "open")

    def test_24_windows(self):
        desk = pile_of(24)
        names = desk.names()
        facts = []
        for name in names:
            facts.append(("see", [(30, 30, name)]))
            facts.append(("place", name, (90, 90, 91, 91)))
        self.assertIsNone(self.answer(contradiction, desk, facts))
        self.assertEqual(self.answer(least_start, desk, facts), names[::-1])
        self.assertEqual(len(demands(desk, facts)), 276)
        self.assertEqual((sure(desk, facts, "a", "x"), sure(desk, facts, "x", "a")), ("over", "under"))

    def test_400_events(self):
        desk = pile_of(24)
        events = [(("raise", [name]), ("see", [(30, 30, name)])) for name in desk.names() * 9][:200]
        events = [event for both in events for event in both]
        self.assertIsNone(contradiction(desk, events))
        self.assertEqual(contradiction(desk, events[:-1] + [("see", [(30, 30, "a")] * 400)])[:3], ("step", 399, 0))


class Errors(Case):
    def test_bad_step_with_the_first_wrong_event(self):
        for wrong in WRONG:
            for function in EVERY:
                self.refused(BadStep, {"at": 0}, function, DESK, [wrong])
                self.refused(BadStep, {"at": 2}, function, DESK, [UP, SEE, wrong, ("jump",)])
                self.refused(BadStep, {"at": 1}, function, DESK, (SEE, wrong))

    def test_bad_step_comes_before_contradictions(self):
        for before in ([("see", [(9, 9, "a")])], [("raise", ["b"]), ("see", [(1, 0, "a")])],
                       [("see", [(1, 0, "a"), (1, 0, "b")])]):
            for function in EVERY:
                self.refused(BadStep, {"at": len(before)}, function, DESK, [*before, ("jump",)])

    def test_errors_of_sure(self):
        impossible = [("see", [(9, 9, "a")])]
        for events in ([], [UP], impossible):
            for one, other, name in (("x", "a", "x"), ("a", "x", "x"), ("x", "y", "x"), ("x", "x", "x"), ("", "a", ""),
                                     ("a", "A", "A")):
                self.refused(Unknown, {"name": name}, sure, DESK, events, one, other)
                self.refused(BadStep, {"at": len(events)}, sure, DESK, [*events, ("jump",)], one, other)
            for name in "abc":
                self.refused(BadWish, {"at": 0}, sure, DESK, events, name, name)
                self.refused(BadStep, {"at": len(events)}, sure, DESK, [*events, ("jump",)], name, name)
        self.refused(Impossible, {}, sure, DESK, impossible, "a", "b")


class Arguments(Case):
    EVENTS = [("see", [(1, 0, "a")]), ("raise", ["c"])]

    def test_by_name(self):
        self.assertIsNone(self.answer(contradiction, events=self.EVENTS, desk=DESK))
        self.assertEqual(self.answer(demands, events=self.EVENTS, desk=DESK), [("b", "a")])
        self.assertEqual(self.answer(least_start, events=self.EVENTS, desk=DESK), ["b", "a", "c"])
        self.assertEqual(self.answer(sure, other="b", one="c", events=self.EVENTS, desk=DESK), "over")
        for function in (contradiction, demands, least_start):
            self.assertEqual(inspect.getfullargspec(function).args, ["desk", "events"])
        self.assertEqual(inspect.getfullargspec(sure).args, ["desk", "events", "one", "other"])

    def test_tuples_in_the_place_of_lists(self):
        events = (("see", ((1, 0, "a"),)), ("raise", ("c",)))
        self.assertIsNone(self.answer(contradiction, DESK, events))
        self.assertEqual(self.answer(demands, DESK, events), [("b", "a")])
        self.assertEqual(self.answer(least_start, DESK, events), ["b", "a", "c"])
        self.assertEqual(self.answer(sure, DESK, events, "c", "b"), "over")


if __name__ == "__main__":
    unittest.main()
