"""[26] The lines of a console and their answers."""

import copy
import inspect
import itertools
import random
import unittest

from helpers import USERS, Case, all_orders, are_alike, drawn_desk, drawn_order, drawn_step, made_log, naive_run, pile_of
from raisekeys.console import Console
from raisekeys.desks import Desk
from raisekeys.logs import Log
from raisekeys.sessions import Session
from raisekeys.texts import format_step

DESK = Desk({"a": (0, 0, 2, 2), "b": (1, 0, 3, 2), "c": (0, 1, 3, 3), "none": (50, 50, 51, 51)})
ORDER = ["b", "a", "c", "none"]
ROWS = (((1, "ann"), ("raise", ["a"]), False), ((2, "bob"), ("lower", ["c"]), False), ((3, "ann"), ("raise", ["b"]), True))
WRONG_NUMBERS = ("", "+1", "-0", "01", "00", "1.0", "x", "1a", "--1", "-", "1\n", "\n1", "9" * 31, "-" + "9" * 31, "1_0")
WRONG_STEPS = ("", "raise", "raise ", "jump a", "raise a a", "raise A", "raise abcdefg", "raise a\n", "raise a1", "place a 0 0 1",
               "place a 0 0 0 1", "place a 0 0 1 1 1", "place a 0 0 01 1", "place A 0 0 1 1", "place a 0 0 1 1000000001",
               "repeat 1 raise a", "raise  a", "raise a ", "lower a\nb", "see 0 0 a", "a")


def new_console(rows=ROWS, desk=DESK, order=ORDER):
    return Console(Session(made_log(rows, desk, order)))


class ConsoleCase(Case):
    def check(self, console, line, answer):
        """A line has this answer; it is counted, whatever it is."""
        count = len(console)
        self.assertEqual(console.execute(line), answer, line)
        self.assertEqual(len(console), count + 1)

    def check_quiet(self, console, line, answer):
        """A line has this answer and changes nothing of the session."""
        session = console.session()
        before = copy.deepcopy(session)
        self.check(console, line, answer)
        self.assertEqual((session.log(), session.turns(), session.answers()), (before.log(), before.turns(), before.answers()))
        self.assertEqual(session.twin().news(), before.news())
        if session.turns()[1]:
            twin = session.twin()
            twin.redo()
            before.redo()
            self.assertEqual(twin, before)

    def busy_console(self):
        """A console with turns to undo and to redo, a watch and news to come."""
        console = new_console()
        console.session().watch(("cell", 1, 1))
        console.execute("add 9 ann raise c")
        console.execute("add 10 ann lower c")
        console.execute("undo")
        return console


class Commands(ConsoleCase):
    def test_add(self):
        console = new_console([])
        self.check(console, "add 3 ann raise a", "ok")
        self.check(console, "add 0 abcdef lower c b", "ok")
        self.check(console, "add 1000000000000000000 z place none -5 -6 7 8", "ok")
        self.assertEqual(console.session().log().entries(), [((0, "abcdef"), ("lower", ["c", "b"]), False),
                                                             ((3, "ann"), ("raise", ["a"]), False),
                                                             ((10 ** 18, "z"), ("place", "none", (-5, -6, 7, 8)), False)])
        self.assertEqual(console.session().turns(), (3, 0))

    def test_errors_of_add(self):
        console = self.busy_console()
        for stamp in ("-1 ann", "1000000000000000001 ann", "9" * 30 + " ann", "1 Ann", "1 abcdefg", "1 a1", "1 ann\n", "1 \n"):
            self.check_quiet(console, f"add {stamp} raise a", "error BadStamp")
            self.check_quiet(console, f"add {stamp} raise x", "error BadStamp")
        self.check_quiet(console, "add 50 ann raise x", "error BadStep")
        self.check_quiet(console, "add 50 ann lower a x", "error BadStep")
        self.check_quiet(console, "add 50 ann place x 0 0 1 1", "error BadStep")
        self.check_quiet(console, "add 1 ann raise x", "error BadStep")
        self.check_quiet(console, "add 1 ann raise a", "error Taken")
        self.check_quiet(console, "add 3 ann raise a", "error Taken")

    def test_a_full_log(self):
        console = new_console([((number, "ann"), ("raise", ["a"]), False) for number in range(200)])
        self.check_quiet(console, "add 200 ann raise a", "error Full")
        self.check_quiet(console, "add 199 ann raise a", "error Taken")

    def test_strike_and_restore(self):
        console = new_console()
        self.check(console, "strike 1 ann", "ok")
        self.assertEqual([row[2] for row in console.session().log().entries()], [True, False, True])
        self.check(console, "strike 1 ann", "ok")
        self.check(console, "restore 3 ann", "ok")
        self.assertEqual([row[2] for row in console.session().log().entries()], [True, False, False])
        self.assertEqual(console.session().turns(), (3, 0))
        for word in ("strike", "restore", "idle"):
            for stamp in ("1 bob", "2 ann", "-1 ann", "1 Ann", "1 ann\n", "1 x.y", "9" * 30 + " ann", "4 ann"):
                self.check_quiet(console, f"{word} {stamp}", "error NoStamp")

    def test_undo_and_redo(self):
        console = new_console()
        self.check_quiet(console, "undo", "error NothingLeft")
        self.check_quiet(console, "redo", "error NothingLeft")
        console.execute("add 9 ann raise c")
        self.check(console, "undo", "ok")
        self.check_quiet(console, "order", "c b none a")
        self.check(console, "redo", "ok")
        self.check_quiet(console, "order", "b none a c")
        self.check_quiet(console, "redo", "error NothingLeft")


class Queries(ConsoleCase):
    def test_order(self):
        self.check_quiet(self.busy_console(), "order", "b none a c")
        self.check_quiet(new_console([], Desk({"a": (0, 0, 1, 1)}), ["a"]), "order", "a")

    def test_rectangle(self):
        console = self.busy_console()
        self.check_quiet(console, "rectangle a", "0 0 2 2")
        self.check_quiet(console, "rectangle none", "50 50 51 51")
        console.execute("add 20 ann place a -1000000000 -5 1000000000 7")
        self.check_quiet(console, "rectangle a", "-1000000000 -5 1000000000 7")
        for name in ("x", "A", "a\n", "\n", "1", "a,b"):
            self.check_quiet(console, f"rectangle {name}", "error Unknown")

    def test_seen(self):
        console = self.busy_console()
        for x, y, name in ((0, 0, "a"), (1, 1, "c"), (2, 0, "b"), (50, 50, "none"), (9, 9, "none"), (-1, 0, "none")):
            self.check_quiet(console, f"seen {x} {y}", name)
        self.check_quiet(console, f"seen {'9' * 30} -{'9' * 30}", "none")

    def test_over(self):
        console = self.busy_console()
        order = ["b", "none", "a", "c"]
        for one, other in itertools.product(order, repeat=2):
            self.check_quiet(console, f"over {one} {other}", "yes" if order.index(one) > order.index(other) else "no")
        for line in ("over x a", "over a x", "over x y", "over x x", "over A a", "over a a\n", "over a \n"):
            self.check_quiet(console, line, "error Unknown")

    def test_idle(self):
        console = new_console()
        self.assertEqual([console.session().log().matters(row[0]) for row in ROWS], [True, True, False])
        for stamp, answer in (("1 ann", "no"), ("2 bob", "no"), ("3 ann", "yes")):
            self.check_quiet(console, f"idle {stamp}", answer)
        console.execute("add 4 ann raise a")
        self.check_quiet(console, "idle 1 ann", "yes")
        self.check_quiet(console, "idle 4 ann", "yes")

    def test_fewest(self):
        console = new_console([])
        self.check_quiet(console, "fewest b a c none", "0 0")
        self.check_quiet(console, "fewest none b a c", "0 0")
        self.check_quiet(console, "fewest b c a none", "1 1")
        self.check_quiet(console, "fewest c none a b", "2 2")
        for words in ("a", "b a c", "b a c none none", "b a c x", "b b a c", "x", "none", "\n", "b a c none\n", "B a c none",
                      "order", "b a c none x", "0 0"):
            self.check_quiet(console, f"fewest {words}", "error BadOrder")

    def test_fewest_from_the_current_order_on_the_current_desk(self):
        console = new_console([], pile_of(3), ["a", "b", "c"])
        console.execute("add 1 ann raise a b")
        self.check_quiet(console, "fewest c a b", "0 0")
        self.check_quiet(console, "fewest a b c", "1 1")
        console.execute("add 2 ann place c 90 90 91 91")
        self.check_quiet(console, "fewest a b c", "0 0")
        self.check_quiet(console, "fewest b c a", "1 1")

    def test_fewest_upside_down(self):
        desk = pile_of(24)
        names = desk.names()
        console = new_console([], desk, names)
        self.check_quiet(console, "fewest " + " ".join(names[::-1]), "23 5")
        self.check_quiet(console, "fewest " + " ".join(names[1:] + names[:1]), "1 1")

    def test_fewest_of_drawn_desks(self):
        """The fewest moves to any order that is alike, all moves tried."""
        source = random.Random(26)
        for number in range(25):
            desk = drawn_desk(source, source.randint(1, 4))
            order, goal = drawn_order(source, desk), drawn_order(source, desk)
            console = new_console([], desk, order)
            groups = [group for size in range(1, len(order) + 1) for group in itertools.combinations(order, size)]
            singles = self.moves_to(desk, order, goal, [(name,) for name in order])
            expected = f"{singles} {self.moves_to(desk, order, goal, groups)}"
            self.check_quiet(console, "fewest " + " ".join(goal), expected)

    def moves_to(self, desk, order, goal, groups):
        goals = [other for other in all_orders(order) if are_alike(desk, other, goal)]
        reached, count = [list(order)], 0
        while not any(other in goals for other in reached):
            reached = [naive_run(desk, other, [(word, group)])[1] for other in reached
                       for word in ("raise", "lower") for group in groups]
            reached = [list(other) for other in sorted({tuple(other) for other in reached})]
            count += 1
        return count


class Malformed(ConsoleCase):
    def unknown(self, *lines):
        console = self.busy_console()
        for line in lines:
            self.check_quiet(console, line, "unknown")

    def test_no_words_and_other_words(self):
        self.unknown("", " ", "  ", "\n", "raise a", "lower a", "place a 0 0 1 1", "x", "Add 50 ann raise a", "ORDER", "order\n",
                     "\norder", "undo\n", "merge", "watch cell 0 0", "news", "answers", "turns", "len", "entry 50 ann raise a",
                     "struck 50 ann raise a", "window a 0 0 1 1", "unknown", "error", "ok", "add\n50 ann raise a")

    def test_blanks(self):
        right = ("add 50 ann raise a", "strike 1 ann", "restore 1 ann", "undo", "redo", "order", "rectangle a", "seen 1 1",
                 "over a b", "idle 1 ann", "fewest b a c none")
        for line in right:
            self.unknown(f" {line}", f"{line} ", f"  {line}", f"{line}  ", f" {line} ")
            for at, sign in enumerate(line):
                if sign == " ":
                    self.unknown(line[:at] + " " + line[at:])

    def test_too_few_and_too_many_words(self):
        self.unknown("add", "add 50", "add 50 ann", "add 50 ann raise", "add ann raise a", "add 50 raise a", "strike", "strike 1",
                     "strike ann", "strike 1 ann x", "restore", "restore 1", "restore 1 ann x", "undo x", "undo 1", "undo undo",
                     "redo x", "redo 1", "order x", "order a b", "rectangle", "rectangle a b", "seen", "seen 1", "seen 1 1 1",
                     "over", "over a", "over a b c", "over x", "idle", "idle 1", "idle 1 ann x", "fewest")

    def test_numbers(self):
        for word in WRONG_NUMBERS:
            self.unknown(f"add {word} ann raise a", f"strike {word} ann", f"restore {word} ann", f"idle {word} ann",
                         f"seen {word} 1", f"seen 1 {word}", f"seen {word} {word}", f"add {word} Ann raise x", f"idle {word} Ann")

    def test_steps(self):
        for step in WRONG_STEPS:
            self.unknown(f"add 50 ann {step}", f"add 1 ann {step}", f"add -1 Ann {step}")

    def test_line_feeds_within_words(self):
        console = self.busy_console()
        for line, answer in (("strike 1 an\nn", "error NoStamp"), ("rectangle a\nb", "error Unknown"), ("seen 1\n1", "unknown"),
                             ("seen 1 1\n", "unknown"), ("over a\nb c", "error Unknown"), ("over a\nb", "unknown"),
                             ("add 50 a\nb raise a", "error BadStamp"), ("add 50 ann raise a\nb", "unknown"),
                             ("add 50 ann\nraise a", "unknown"), ("fewest b\na c none", "error BadOrder"), ("ord\ner", "unknown"),
                             ("idle 1\n ann", "unknown"), ("idle 1 \nann", "error NoStamp"), ("undo\n", "unknown")):
            self.check_quiet(console, line, answer)


class Consoles(ConsoleCase):
    def test_this_very_session(self):
        session = Session(Log(DESK, ORDER))
        console = Console(session)
        self.assertIs(console.session(), session)
        session.add((1, "ann"), ("lower", ["c"]))
        self.check(console, "order", "c b a none")

    def test_two_consoles_on_one_session(self):
        session = Session(Log(DESK, ORDER))
        one, other = Console(session), Console(session)
        self.check(one, "add 1 ann lower c", "ok")
        self.check(other, "order", "c b a none")
        self.check(other, "add 1 ann lower c", "error Taken")
        self.check(other, "undo", "ok")
        self.check(one, "order", "b a c none")
        self.check(one, "redo", "ok")
        self.assertEqual((len(one), len(other), len(session)), (3, 3, 1))

    def test_len_counts_all_lines(self):
        console = new_console()
        self.assertEqual(len(console), 0)
        for count, line in enumerate(("order", "", "jump", "undo", "add 1 ann raise a", "add 50 ann raise a", "order"), 1):
            console.execute(line)
            self.assertEqual(len(console), count)
        console.session().undo()
        self.assertEqual(len(console), 7)

    def test_drawn_lines(self):
        """Lines lead to the same log as the calls that they stand for."""
        source = random.Random(260)
        for number in range(20):
            desk = drawn_desk(source, source.randint(1, 5))
            order = drawn_order(source, desk)
            console, session = new_console([], desk, order), Session(Log(desk, order))
            for turn in range(40):
                stamp = (source.randint(0, 9), source.choice(USERS))
                word = source.choice(("add", "add", "add", "strike", "restore", "undo", "redo"))
                given = {"add": (stamp, drawn_step(source, desk)), "strike": (stamp,), "restore": (stamp,)}.get(word, ())
                line = " ".join([word, *(f"{part[0]} {part[1]}" if part == stamp else format_step(part) for part in given)])
                try:
                    getattr(session, word)(*given) if word in ("add", "undo", "redo") else session.do((word, *given))
                    expected = "ok"
                except (ValueError, LookupError) as error:
                    expected = f"error {type(error).__name__}"
                self.check(console, line, expected)
                self.assertEqual((console.session(), console.session().turns()), (session, session.turns()))
                self.check_quiet(console, "order", " ".join(session.order()))


class Arguments(ConsoleCase):
    def test_by_name(self):
        console = Console(session=Session(Log(DESK, ORDER)))
        self.assertEqual(console.execute(line="order"), "b a c none")

    def test_parameters(self):
        for name, parameters in {"session": [], "execute": ["line"], "__len__": [], "__init__": ["session"]}.items():
            self.assertIn(name, vars(Console))
            self.assertEqual(inspect.getfullargspec(vars(Console)[name]).args[1:], parameters, name)


if __name__ == "__main__":
    unittest.main()
