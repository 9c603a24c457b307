"""[21] Stamps, logs, struck and restored entries, the state and merging."""

import copy
import inspect
import itertools
import random
import unittest

from helpers import USERS, Case, drawn_desk, drawn_order, drawn_rows, drawn_step, made_log, naive_run, pile_of, row_of
from helpers import scripts_are_alike, spoil
from raisekeys.desks import Desk
from raisekeys.errors import BadOrder, BadStamp, BadStep, Clash, Full, NoStamp, OtherLog, Taken, Unknown
from raisekeys.logs import MOST_ENTRIES, Log

DESK = Desk({"a": (0, 0, 2, 2), "b": (1, 0, 3, 2), "c": (0, 1, 3, 3)})
ORDER = ["b", "a", "c"]
UP = ("raise", ["a"])
DOWN = ("lower", ["c", "b"])
PLACE = ("place", "c", (5, 5, 6, 6))
WRONG_STAMPS = ((), (1,), ("ann",), (1, "ann", 2), (1, "ann", "bob"), (-1, "ann"), (-10 ** 18, "ann"), (10 ** 18 + 1, "ann"),
                (10 ** 29, "ann"), (1, ""), (1, "Ann"), (1, "a b"), (1, "ann\n"), (1, "abcdefg"), (1, "ann1"), (1, "a-b"),
                ("ann", 1), ("1", "ann"), (1, 1), (1, ("ann",)))
WRONG_STEPS = (("jump",), ("repeat", 1, []), ("repeat", 0, [UP]), ("raise",), ("raise", []), ("raise", ["x"]),
               ("raise", ["a", "a"]), ("lower", ["a"], 1), ("lower", "a"), ("place", "a"), ("place", "x", (0, 0, 1, 1)),
               ("place", "a", (0, 0, 0, 1)), ("place", "a", (0, 0, 1)), ("see", []))


def made(rows, desk=DESK, order=None):
    """A log with these tuples (stamp, step, struck)."""
    return made_log(rows, desk, ORDER if order is None else order)


def listed(step):
    """A step with its names as a list."""
    return step if step[0] == "place" else (step[0], list(step[1]))


class LogCase(Case):
    def ask(self, log, method, *given, **named):
        """What a query returns. It changes nothing, and what it returns can be changed without an effect on the log."""
        before = copy.deepcopy(log)
        found = self.answer(getattr(log, method), *given, **named)
        self.check_same(log, before)
        return found

    def check_same(self, log, other):
        self.assertEqual(log, other)
        self.assertEqual((log.entries(), log.desk(), log.order(), log.state()),
                         (other.entries(), other.desk(), other.order(), other.state()))

    def deny(self, error, attributes, log, method, *given):
        """A call is refused, and nothing changes."""
        before = copy.deepcopy(log)
        self.refused(error, attributes, getattr(log, method), *given)
        self.check_same(log, before)

    def check_model(self, log, desk, order, rows):
        """The log has what the dict of stamps to (step, struck) has."""
        expected = [(stamp, listed(rows[stamp][0]), rows[stamp][1]) for stamp in sorted(rows)]
        self.assertEqual(self.ask(log, "entries"), expected)
        self.assertEqual((self.ask(log, "desk"), self.ask(log, "order"), len(log)), (desk, list(order), len(rows)))
        standing = [step for stamp, step, struck in expected if not struck]
        self.assertEqual(self.ask(log, "state"), naive_run(desk, order, standing))
        self.assertEqual(repr(log), f"Log({len(desk)} windows, {len(rows)} entries)")


class NewLogs(LogCase):
    def test_most_entries(self):
        self.assertEqual(MOST_ENTRIES, 200)

    def test_without_entries(self):
        log = Log(DESK, ORDER)
        self.check_model(log, DESK, ORDER, {})
        self.assertIs(type(log.state()), tuple)
        self.check_model(Log(DESK, tuple(ORDER)), DESK, ORDER, {})

    def test_the_order_is_kept_as_a_copy(self):
        order = list(ORDER)
        log = Log(DESK, order)
        order.reverse()
        self.assertEqual(log.order(), ORDER)

    def test_bad_order(self):
        for wrong in ([], ["a"], ["a", "b"], ["a", "b", "b"], ["a", "b", "c", "c"], ["a", "b", "x"], ["a", "b", "c", "x"]):
            self.refused(BadOrder, {}, Log, DESK, wrong)
            self.refused(BadOrder, {}, Log, DESK, tuple(wrong))


class Changes(LogCase):
    def test_additions_strikes_and_restorations_in_drawn_order(self):
        source = random.Random(21)
        for number in range(40):
            desk = drawn_desk(source, source.randint(1, 6))
            order = drawn_order(source, desk)
            log, rows = Log(desk, order), {}
            for change in range(25):
                word = source.choice(("add", "add", "strike", "restore"))
                stamp = (source.randint(0, 9), source.choice(USERS))
                if word == "add":
                    step = drawn_step(source, desk)
                    if stamp in rows:
                        self.deny(Taken, {"stamp": stamp}, log, "add", stamp, step)
                    else:
                        self.assertIsNone(log.add(stamp, step))
                        rows[stamp] = (step, False)
                elif stamp in rows:
                    self.assertIsNone(getattr(log, word)(stamp))
                    rows[stamp] = (rows[stamp][0], word == "strike")
                else:
                    self.deny(NoStamp, {"stamp": stamp}, log, word, stamp)
                self.check_model(log, desk, order, rows)

    def test_numbers_come_before_users(self):
        log = made([((10, "ann"), UP, False), ((9, "zed"), DOWN, False), ((9, "bob"), UP, True), ((100, "a"), PLACE, False)])
        self.assertEqual([row[0] for row in log.entries()], [(9, "bob"), (9, "zed"), (10, "ann"), (100, "a")])

    def test_striking_twice_and_restoring_twice(self):
        log = made([((1, "ann"), UP, False)])
        for word, struck in (("restore", False), ("strike", True), ("strike", True), ("restore", False), ("restore", False)):
            self.assertIsNone(getattr(log, word)((1, "ann")))
            self.assertEqual(log.entries(), [((1, "ann"), UP, struck)])
            self.assertIs(log.entries()[0][2], struck)

    def test_stamps_at_their_bounds(self):
        log = Log(DESK, ORDER)
        for stamp in ((0, "a"), (10 ** 18, "a"), (5, "abcdef"), (0, "zzzzzz")):
            log.add(stamp, UP)
        self.assertEqual(len(log), 4)

    def test_steps_whose_lists_are_changed_afterwards(self):
        names = ["a", "b"]
        log = Log(DESK, ORDER)
        log.add((1, "ann"), ("raise", names))
        names.append("x")
        self.assertEqual(log.entries(), [((1, "ann"), ("raise", ["a", "b"]), False)])
        found = [log.entries(), log.order(), log.state()]
        for value in found:
            spoil(value)
        self.assertEqual(log.entries(), [((1, "ann"), ("raise", ["a", "b"]), False)])
        self.assertEqual((log.order(), log.state()), (ORDER, (DESK, ["c", "b", "a"])))

    def test_steps_stay_as_they_are_when_an_entry_is_struck(self):
        log = made([((1, "ann"), ("raise", ("b", "a")), False)])
        log.strike((1, "ann"))
        spoil(log.entries())
        log.restore((1, "ann"))
        self.assertEqual(log.entries(), [((1, "ann"), ("raise", ["b", "a"]), False)])


class Refusals(LogCase):
    def test_wrong_stamps(self):
        log = made([((1, "ann"), UP, False)])
        for wrong in WRONG_STAMPS:
            for step in (UP, ("jump",)):
                self.deny(BadStamp, {}, log, "add", wrong, step)
        self.deny(BadStamp, {}, log, "add", [2, "ann"], UP)

    def test_wrong_steps(self):
        log = made([((1, "ann"), UP, True)])
        for wrong in WRONG_STEPS:
            for stamp in ((1, "ann"), (2, "ann")):
                self.deny(BadStep, {"at": 0}, log, "add", stamp, wrong)

    def test_a_struck_entry_still_has_its_stamp(self):
        log = made([((1, "ann"), UP, True), ((1, "bob"), UP, False)])
        for stamp in ((1, "ann"), (1, "bob")):
            for step in (UP, DOWN):
                self.deny(Taken, {"stamp": stamp}, log, "add", stamp, step)
        log.add((2, "ann"), UP)
        self.assertEqual(len(log), 3)

    def test_200_entries_and_one_more(self):
        log = Log(DESK, ORDER)
        for number in range(200):
            log.add((number, "ann"), UP if number % 2 else DOWN)
        log.strike((7, "ann"))
        self.assertEqual((len(log), repr(log)), (200, "Log(3 windows, 200 entries)"))
        self.deny(Full, {"most": 200}, log, "add", (200, "ann"), UP)
        self.deny(Taken, {"stamp": (7, "ann")}, log, "add", (7, "ann"), UP)
        self.deny(BadStep, {"at": 0}, log, "add", (200, "ann"), ("jump",))
        self.deny(BadStamp, {}, log, "add", (-1, "ann"), ("jump",))
        self.assertIs(log.matters((199, "ann")), False)

    def test_no_stamp(self):
        log = made([((1, "ann"), UP, False)])
        for stamp in ((2, "ann"), (1, "bob"), (0, "ann"), *WRONG_STAMPS):
            for method in ("strike", "restore", "matters"):
                self.deny(NoStamp, {"stamp": stamp}, log, method, stamp)
                self.refused(NoStamp, {"stamp": stamp}, getattr(Log(DESK, ORDER), method), stamp)


class Matters(LogCase):
    def test_struck_entries_do_not_matter(self):
        log = made([((1, "ann"), UP, False), ((2, "ann"), ("raise", ["b"]), False)])
        self.assertEqual([self.ask(log, "matters", (number, "ann")) for number in (1, 2)], [True, True])
        log.strike((1, "ann"))
        self.assertEqual([self.ask(log, "matters", (number, "ann")) for number in (1, 2)], [False, True])

    def test_two_entries_of_which_each_makes_the_other_one_idle(self):
        log = made([((1, "ann"), UP, False), ((2, "bob"), UP, False)])
        self.assertEqual([self.ask(log, "matters", stamp) for stamp in ((1, "ann"), (2, "bob"))], [False, False])
        log.strike((1, "ann"))
        self.assertIs(self.ask(log, "matters", (2, "bob")), True)

    def test_the_starting_order_of_the_log_does_not_decide(self):
        log = Log(Desk({"a": (0, 0, 1, 1), "b": (0, 0, 1, 1)}), ["a", "b"])
        log.add((1, "ann"), ("raise", ["b"]))
        self.assertIs(self.ask(log, "matters", (1, "ann")), True)

    def test_against_the_steps_without_the_entry(self):
        source = random.Random(22)
        found = {True: 0, False: 0}
        for number in range(60):
            desk = drawn_desk(source, source.randint(1, 4))
            log = made(drawn_rows(source, desk, source.randint(1, 6)), desk, drawn_order(source, desk))
            rows = log.entries()
            for stamp, step, struck in rows:
                steps = [row[1] for row in rows if not row[2]]
                without = [row[1] for row in rows if not row[2] and row[0] != stamp]
                expected = not scripts_are_alike(desk, steps, without)
                self.assertIs(self.ask(log, "matters", stamp), expected, (rows, stamp))
                found[expected] += 1
        self.assertGreater(min(found.values()), 30, found)


class Parting(LogCase):
    def test_the_last_entry_that_parts(self):
        log = made([((7, "ann"), ("lower", ["a"]), False), ((5, "bob"), UP, False), ((9, "ann"), ("raise", ["a", "b"]), False),
                    ((8, "ann"), PLACE, False)])
        self.assertEqual(self.ask(log, "parting", "b", "a"), (7, "ann"))
        self.assertEqual(self.ask(log, "parting", "a", "b"), (7, "ann"))
        self.assertEqual(self.ask(log, "parting", "a", "c"), (9, "ann"))
        self.assertIsNone(self.ask(log, "parting", "a", "a"))
        log.strike((7, "ann"))
        self.assertEqual(self.ask(log, "parting", "a", "b"), (5, "bob"))
        log.strike((5, "bob"))
        self.assertIsNone(self.ask(log, "parting", "a", "b"))
        log.restore((7, "ann"))
        self.assertEqual(self.ask(log, "parting", "a", "b"), (7, "ann"))

    def test_drawn_logs(self):
        source = random.Random(23)
        for number in range(40):
            desk = drawn_desk(source, source.randint(1, 5))
            log = made(drawn_rows(source, desk, source.randint(0, 8)), desk, drawn_order(source, desk))
            for one, other in itertools.product(desk.names(), repeat=2):
                parting = [stamp for stamp, step, struck in log.entries() if not struck and step[0] != "place"
                           and (one in step[1]) != (other in step[1])]
                self.assertEqual(self.ask(log, "parting", one, other), parting[-1] if parting else None)

    def test_unknown(self):
        log = made([((1, "ann"), UP, False)])
        for one, other, name in (("x", "a", "x"), ("a", "x", "x"), ("x", "y", "x"), ("x", "x", "x"), ("a", "", ""),
                                 ("A", "a", "A")):
            self.deny(Unknown, {"name": name}, log, "parting", one, other)


class Merging(LogCase):
    def merged(self, one, other):
        """A clone of a log after merging another log, which stays as it is."""
        before = copy.deepcopy(other)
        found = one.clone()
        self.assertIsNone(found.merge(other))
        self.check_same(other, before)
        return found

    def check(self, one, other, expected):
        """Both ways of merging two logs lead to the log with these rows."""
        for found in (self.merged(one, other), self.merged(other, one)):
            self.check_same(found, made(expected))

    def test_entries_of_both(self):
        one, other = ((1, "ann"), UP, False), ((2, "ann"), DOWN, True)
        third = ((1, "bob"), PLACE, False)
        self.check(made([]), made([]), [])
        self.check(made([one]), made([]), [one])
        self.check(made([one, other]), made([third]), [one, other, third])
        self.check(made([other, one]), made([third, one]), [third, one, other])
        self.check(made([one, other]), made([one, other]), [one, other])

    def test_common_entries_that_are_struck_in_one_of_them(self):
        stamp = (1, "ann")
        self.check(made([(stamp, UP, True)]), made([(stamp, UP, False)]), [(stamp, UP, True)])
        self.check(made([(stamp, UP, True)]), made([(stamp, UP, True)]), [(stamp, UP, True)])
        self.check(made([(stamp, UP, False)]), made([(stamp, UP, False)]), [(stamp, UP, False)])

    def test_names_as_lists_and_as_tuples_are_no_clash(self):
        stamp = (1, "ann")
        one, other = made([(stamp, ("raise", ["a", "b"]), False)]), made([(stamp, ("raise", ("a", "b")), True)])
        self.assertEqual(one == other, False)
        self.check(one, other, [(stamp, ("raise", ["a", "b"]), True)])

    def test_clash(self):
        stamp = (4, "ann")
        for one, other in ((UP, ("lower", ["a"])), (UP, ("raise", ["b"])), (("raise", ["a", "b"]), ("raise", ["b", "a"])),
                           (UP, PLACE), (PLACE, ("place", "c", (5, 5, 6, 7))), (PLACE, ("place", "b", (5, 5, 6, 6))),
                           (UP, ("raise", ["a", "b"]))):
            for struck in (False, True):
                for first, second in ((one, other), (other, one)):
                    self.deny(Clash, {"stamp": stamp}, made([(stamp, first, struck)]), "merge", made([(stamp, second, False)]))

    def test_the_first_clash_in_ascending_order(self):
        stamps = [(10, "ann"), (9, "bob"), (9, "ann"), (11, "ann")]
        one = made([(stamp, UP, False) for stamp in stamps])
        other = made([(stamp, UP if stamp == (9, "ann") else DOWN, False) for stamp in stamps[::-1]])
        self.deny(Clash, {"stamp": (9, "bob")}, one, "merge", other)
        self.deny(Clash, {"stamp": (9, "bob")}, other, "merge", one)

    def test_another_desk_or_another_order(self):
        stamp = (1, "ann")
        log = made([(stamp, UP, False)])
        for desk, order in ((DESK, ["a", "b", "c"]), (DESK.placed("a", (0, 0, 2, 3)), ORDER), (pile_of(4), list("abcd")),
                            (Desk({"a": (0, 0, 2, 2)}), ["a"])):
            for rows in ([], [(stamp, UP, False)], [(stamp, ("lower", ["a"]), False)]):
                self.deny(OtherLog, {}, log, "merge", made(rows, desk, order))
                self.deny(OtherLog, {}, made(rows, desk, order), "merge", log)

    def test_equal_desks_and_orders_that_are_other_objects(self):
        windows = {name: DESK.rectangle(name) for name in "cab"}
        other = made([((2, "bob"), DOWN, False)], Desk(windows), tuple(ORDER))
        self.check(made([((1, "ann"), UP, False)]), other, [((1, "ann"), UP, False), ((2, "bob"), DOWN, False)])

    def test_with_itself(self):
        log = made([((1, "ann"), UP, True), ((2, "ann"), DOWN, False)])
        before = copy.deepcopy(log)
        self.assertIsNone(log.merge(log))
        self.check_same(log, before)
        self.check_same(self.merged(log, log.clone()), before)

    def rows(self, first, last, step=UP):
        return [((number, "ann"), step, number % 3 == 0) for number in range(first, last)]

    def test_200_entries_together_and_one_more(self):
        for first, second in ((100, 100), (150, 100), (0, 0), (200, 200)):
            one, other = made(self.rows(0, first)), made(self.rows(200 - second, 200))
            found = self.merged(one, other)
            self.assertEqual(len(found), 200 if first else 0)
            if first:
                self.deny(Full, {"most": 200}, found, "merge", made(self.rows(250, 251)))
                self.deny(Full, {"most": 200}, made(self.rows(250, 251)), "merge", found)
        self.deny(Full, {"most": 200}, made(self.rows(0, 150)), "merge", made(self.rows(100, 201)))

    def test_several_errors_at_once(self):
        one = made(self.rows(0, 150))
        clashing = made(self.rows(149, 250, DOWN))
        self.deny(Clash, {"stamp": (149, "ann")}, one, "merge", clashing)
        self.deny(OtherLog, {}, one, "merge", made(self.rows(149, 250, DOWN), DESK, ["a", "b", "c"]))

    def test_the_merged_log_stays_independent(self):
        one, other = made([((1, "ann"), UP, False)]), made([((2, "bob"), ("raise", ["c", "b"]), False)])
        found = self.merged(one, other)
        before = copy.deepcopy(found)
        other.strike((2, "bob"))
        other.add((3, "bob"), UP)
        spoil(other.entries())
        self.check_same(found, before)
        kept = copy.deepcopy(other)
        found.restore((2, "bob"))
        found.strike((2, "bob"))
        found.add((4, "bob"), DOWN)
        spoil(found.entries())
        self.check_same(other, kept)

    def test_three_logs_merged_in_all_orders(self):
        source = random.Random(24)
        for number in range(40):
            desk = drawn_desk(source, source.randint(1, 6))
            order = drawn_order(source, desk)
            rows = drawn_rows(source, desk, 12)
            logs = []
            for part in range(3):
                chosen = source.sample(rows, source.randint(0, 12))
                logs.append(made([(stamp, step, source.random() < 0.3) for stamp, step, struck in chosen], desk, order))
            results = []
            for first, second, third in itertools.permutations(logs):
                results.append(self.merged(self.merged(first, second), third))
                results.append(self.merged(first, self.merged(second, third)))
            expected = {}
            for stamp, step, struck in [row for log in logs for row in log.entries()]:
                expected[stamp] = (step, struck or expected.get(stamp, (step, False))[1])
            for found in results:
                self.check_model(found, desk, order, expected)
                self.assertEqual(found, results[0])


class Values(LogCase):
    def test_clone(self):
        log = made([((1, "ann"), UP, True), ((2, "bob"), ("raise", ("b", "a")), False)])
        before = copy.deepcopy(log)
        twin = log.clone()
        self.assertIsNot(twin, log)
        self.check_same(twin, log)
        twin.restore((1, "ann"))
        twin.add((3, "ann"), DOWN)
        spoil(twin.entries())
        self.check_same(log, before)
        kept = copy.deepcopy(twin)
        log.strike((2, "bob"))
        log.add((3, "ann"), PLACE)
        spoil(log.order())
        self.check_same(twin, kept)

    def test_equal_logs(self):
        rows = [((1, "ann"), UP, True), ((2, "bob"), DOWN, False), ((0, "bob"), PLACE, False)]
        log = made(rows)
        for sequence in itertools.permutations(rows):
            self.assertIs(made(sequence) == log, True)
            self.assertIs(made(sequence) != log, False)

    def test_unequal_logs(self):
        row = ((1, "ann"), ("raise", ["a", "b"]), False)
        log = made([row])
        others = [made([]), made([(row[0], row[1], True)]), made([((1, "bob"), row[1], False)]),
                  made([(row[0], ("raise", ["b", "a"]), False)]), made([(row[0], ("lower", ["a", "b"]), False)]),
                  made([row, ((2, "ann"), UP, False)]), made([row], DESK, ["a", "b", "c"]),
                  made([row], DESK.placed("c", (0, 0, 1, 1)))]
        for other in others:
            self.assertIs(log == other, False, other.entries())
            self.assertIs(other == log, False)
            self.assertIs(log != other, True)

    def test_equal_to_nothing_else(self):
        log = made([])
        for other in (None, 0, "", "Log(3 windows, 0 entries)", [], (), {}, DESK, log.entries(), (DESK, ORDER), object()):
            self.assertIs(log == other, False)
            self.assertIs(log != other, True)

    def test_len_and_repr_for_all_numbers(self):
        for windows in (1, 2, 3, 24):
            desk = row_of(windows)
            log = Log(desk, desk.names())
            for count in range(3):
                self.assertEqual((len(log), repr(log)), (count, f"Log({windows} windows, {count} entries)"))
                log.add((count, "ann"), UP)
            log.strike((0, "ann"))
            self.assertEqual((len(log), repr(log)), (3, f"Log({windows} windows, 3 entries)"))

    def test_logs_made_anew_from_their_entries_in_another_order(self):
        source = random.Random(25)
        for number in range(30):
            desk = drawn_desk(source, source.randint(1, 6))
            order = drawn_order(source, desk)
            log = made(drawn_rows(source, desk, 10), desk, order)
            rows = log.entries()
            source.shuffle(rows)
            self.check_same(made(rows, desk, order), log)


class Arguments(LogCase):
    def test_by_name(self):
        log = Log(order=ORDER, desk=DESK)
        log.add(step=UP, stamp=(1, "ann"))
        log.strike(stamp=(1, "ann"))
        log.restore(stamp=(1, "ann"))
        log.merge(other=made([((2, "bob"), DOWN, False)]))
        self.assertIs(self.ask(log, "matters", stamp=(1, "ann")), False)
        self.assertEqual(self.ask(log, "parting", other="a", one="b"), (2, "bob"))
        self.assertEqual(len(log), 2)

    def test_parameters(self):
        expected = {"add": ["stamp", "step"], "strike": ["stamp"], "restore": ["stamp"], "merge": ["other"], "entries": [],
                    "desk": [], "order": [], "state": [], "matters": ["stamp"], "parting": ["one", "other"], "clone": [],
                    "__eq__": ["other"], "__len__": [], "__repr__": [], "__init__": ["desk", "order"]}
        for name, parameters in expected.items():
            self.assertIn(name, vars(Log))
            self.assertEqual(inspect.getfullargspec(vars(Log)[name]).args[1:], parameters, name)


if __name__ == "__main__":
    unittest.main()
