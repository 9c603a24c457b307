"""[22] and [23] Sessions, deeds, turns, watches, answers and news."""

import copy
import inspect
import random
import unittest

from helpers import USERS, Case, drawn_desk, drawn_log, drawn_order, drawn_step, made_log, naive_run, pile_of, spoil
from raisekeys.desks import Desk
from raisekeys.errors import BadDeed, BadStamp, BadStep, BadWatch, Clash, Full, NoStamp, NothingLeft, NoWatch, OtherLog, Taken
from raisekeys.logs import Log
from raisekeys.rects import covers
from raisekeys.sessions import MOST_WATCHES, Session

DESK = Desk({"a": (0, 0, 2, 2), "b": (1, 0, 3, 2), "c": (0, 1, 3, 3)})
ORDER = ["b", "a", "c"]
UP, DOWN, PLACE = ("raise", ["a"]), ("lower", ["c", "b"]), ("place", "c", (5, 5, 6, 6))
ONE, TWO, THREE = (1, "ann"), (2, "bob"), (3, "ann")
WRONG_DEEDS = ((), ("jump",), ("jump", ONE), ("Add", ONE, UP), ("", ONE), ("add",), ("add", ONE), ("add", ONE, UP, UP),
               ("strike",), ("strike", ONE, UP), ("strike", 1, "ann"), ("restore",), ("restore", ONE, ONE), ("merge",),
               ("merge", ONE, ONE), ("undo",), ("redo",), ("do", ("add", ONE, UP)), (1, ONE), ("watch", ONE), ("clone", ONE))


def log_of(*rows):
    return made_log(rows, DESK, ORDER)


def new_session(*rows):
    return Session(log_of(*rows))


def numbered(first, last, step=UP):
    """The tuples (stamp, step, struck) with the numbers from first to last - 1."""
    return [((number, "ann"), step, False) for number in range(first, last)]


class SessionCase(Case):
    def ask(self, session, method, *given, **named):
        """What a query returns. It changes nothing, and what it returns can be changed without an effect."""
        before = copy.deepcopy(session)
        found = self.answer(getattr(session, method), *given, **named)
        self.check_same(session, before)
        return found

    def check_same(self, session, other):
        """Two sessions have the same log, turns and watches, and the same news to come."""
        one, two = copy.deepcopy(session), copy.deepcopy(other)
        self.assertEqual(one, two)
        self.assertEqual((one.log(), one.turns(), one.answers(), one.news()), (two.log(), two.turns(), two.answers(), two.news()))
        for word in ("undo", "redo"):
            for number in range(one.turns()[word == "redo"]):
                getattr(one, word)()
                getattr(two, word)()
                self.assertEqual(one.log(), two.log())

    def deny(self, error, attributes, session, method, *given):
        """A call is refused, and nothing changes."""
        before = copy.deepcopy(session)
        self.refused(error, attributes, getattr(session, method), *given)
        self.check_same(session, before)

    def check_log(self, session, log, turns):
        """The session shows this log and so many turns."""
        self.assertEqual(self.ask(session, "log"), log)
        self.assertEqual(self.ask(session, "turns"), turns)
        self.assertIs(type(session.turns()), tuple)
        steps = [step for stamp, step, struck in log.entries() if not struck]
        desk, order = naive_run(log.desk(), log.order(), steps)
        self.assertEqual((self.ask(session, "desk"), self.ask(session, "order"), len(session)), (desk, order, len(log)))
        for x, y in ((0, 0), (1, 1), (2, 0), (-1, 2), (5, 5)):
            there = [name for name in order if covers(desk.rectangle(name), x, y)]
            self.assertEqual(self.ask(session, "seen", x, y), there[-1] if there else None)


class Turns(SessionCase):
    def test_a_new_session(self):
        for rows in ([], [(ONE, UP, True), (TWO, DOWN, False)]):
            self.check_log(new_session(*rows), log_of(*rows), (0, 0))

    def test_the_log_is_kept_as_a_clone(self):
        log = log_of((ONE, UP, False))
        session = Session(log)
        log.add(TWO, DOWN)
        self.check_log(session, log_of((ONE, UP, False)), (0, 0))
        session.do(("strike", ONE))
        session.add(THREE, DOWN)
        self.assertEqual(log, log_of((ONE, UP, False), (TWO, DOWN, False)))

    def test_the_log_that_is_returned_is_a_clone(self):
        session = new_session((ONE, UP, False))
        session.log().strike(ONE)
        session.log().add(TWO, UP)
        self.check_log(session, log_of((ONE, UP, False)), (0, 0))

    def test_each_deed(self):
        session = new_session()
        self.assertIsNone(session.do(("add", ONE, UP)))
        self.check_log(session, log_of((ONE, UP, False)), (1, 0))
        self.assertIsNone(session.do(("strike", ONE)))
        self.check_log(session, log_of((ONE, UP, True)), (2, 0))
        self.assertIsNone(session.do(("restore", ONE)))
        self.check_log(session, log_of((ONE, UP, False)), (3, 0))
        self.assertIsNone(session.do(("merge", log_of((ONE, UP, True), (TWO, DOWN, False)))))
        self.check_log(session, log_of((ONE, UP, True), (TWO, DOWN, False)), (4, 0))
        self.assertIsNone(session.add(THREE, PLACE))
        self.check_log(session, log_of((ONE, UP, True), (TWO, DOWN, False), (THREE, PLACE, False)), (5, 0))

    def test_deeds_that_change_nothing_are_turns(self):
        session = new_session((ONE, UP, False))
        for deed in (("restore", ONE), ("merge", log_of()), ("merge", session.log())):
            session.do(deed)
        self.check_log(session, log_of((ONE, UP, False)), (3, 0))

    def test_an_empty_list_of_deeds_is_a_turn(self):
        for empty in ([], ()):
            session = new_session((ONE, UP, False))
            session.do(("strike", ONE))
            session.undo()
            self.assertIsNone(session.do_all(empty))
            self.check_log(session, log_of((ONE, UP, False)), (1, 0))
            self.deny(NothingLeft, {}, session, "redo")
            session.undo()
            self.check_log(session, log_of((ONE, UP, False)), (0, 1))

    def test_several_deeds_as_one_turn(self):
        deeds = [("add", TWO, DOWN), ("strike", ONE), ("merge", log_of((THREE, PLACE, False))), ("strike", TWO),
                 ("restore", ONE), ("strike", THREE)]
        for given in (deeds, tuple(deeds)):
            session = new_session((ONE, UP, False))
            self.assertIsNone(session.do_all(given))
            self.check_log(session, log_of((ONE, UP, False), (TWO, DOWN, True), (THREE, PLACE, True)), (1, 0))
            session.undo()
            self.check_log(session, log_of((ONE, UP, False)), (0, 1))

    def test_undo_and_redo(self):
        session = new_session()
        self.deny(NothingLeft, {}, session, "undo")
        self.deny(NothingLeft, {}, session, "redo")
        session.add(ONE, UP)
        session.add(TWO, DOWN)
        self.assertIsNone(session.undo())
        self.check_log(session, log_of((ONE, UP, False)), (1, 1))
        self.assertIsNone(session.undo())
        self.check_log(session, log_of(), (0, 2))
        self.deny(NothingLeft, {}, session, "undo")
        self.assertIsNone(session.redo())
        self.check_log(session, log_of((ONE, UP, False)), (1, 1))
        session.redo()
        self.check_log(session, log_of((ONE, UP, False), (TWO, DOWN, False)), (2, 0))
        self.deny(NothingLeft, {}, session, "redo")

    def test_another_turn_ends_what_can_be_redone(self):
        for deed in (("add", THREE, PLACE), ("restore", ONE), ("merge", log_of())):
            session = new_session()
            session.add(ONE, UP)
            session.add(TWO, DOWN)
            session.undo()
            session.do(deed)
            self.assertEqual(session.turns(), (2, 0))
            self.deny(NothingLeft, {}, session, "redo")

    def test_a_refused_turn_does_not_end_what_can_be_redone(self):
        session = new_session()
        session.add(ONE, UP)
        session.add(TWO, DOWN)
        session.undo()
        self.deny(NoStamp, {"stamp": TWO}, session, "do", ("strike", TWO))
        self.deny(Taken, {"stamp": ONE}, session, "add", ONE, UP)
        self.deny(BadDeed, {"at": 1}, session, "do_all", [("add", THREE, UP), ("jump",)])
        self.deny(NoStamp, {"stamp": THREE}, session, "do_all", [("strike", ONE), ("strike", THREE)])
        session.redo()
        self.check_log(session, log_of((ONE, UP, False), (TWO, DOWN, False)), (2, 0))

    def test_merges_undone_and_redone_whatever_happens_to_the_merged_log(self):
        for others in ([], [("strike", ONE)], [("strike", TWO), ("add", THREE, PLACE)]):
            other = log_of((TWO, ("raise", ["b", "c"]), False))
            session = new_session((ONE, UP, False))
            session.do_all([("merge", other), *others])
            expected = session.log()
            other.strike(TWO)
            other.add((9, "ann"), UP)
            spoil(other.entries())
            self.check_log(session, expected, (1, 0))
            session.undo()
            self.check_log(session, log_of((ONE, UP, False)), (0, 1))
            other.restore(TWO)
            session.redo()
            self.check_log(session, expected, (1, 0))

    def test_the_merged_log_does_not_change(self):
        other = log_of((TWO, DOWN, False))
        before = copy.deepcopy(other)
        session = new_session((ONE, UP, False))
        session.do(("merge", other))
        session.do_all([("strike", TWO), ("add", THREE, UP)])
        spoil(session.log().entries())
        self.assertEqual((other, other.entries()), (before, before.entries()))

    def test_lists_that_are_changed_after_the_call(self):
        names, deeds = ["a", "b"], []
        session = new_session()
        deeds.append(("add", ONE, ("raise", names)))
        session.do_all(deeds)
        session.add(TWO, ("lower", names))
        names.append("x")
        deeds.append(("strike", ONE))
        expected = log_of((ONE, ("raise", ["a", "b"]), False), (TWO, ("lower", ["a", "b"]), False))
        self.check_log(session, expected, (2, 0))
        session.undo()
        session.undo()
        session.redo()
        session.redo()
        self.check_log(session, expected, (2, 0))

    def test_160_turns(self):
        session = new_session()
        logs = [session.log()]
        for number in range(160):
            session.add((number, "ann"), UP if number % 3 else DOWN)
            logs.append(session.log())
        self.assertEqual((session.turns(), len(session)), ((160, 0), 160))
        for number in range(160, 0, -1):
            self.assertEqual(session.log(), logs[number])
            session.undo()
        self.assertEqual((session.turns(), session.log()), ((0, 160), logs[0]))
        self.deny(NothingLeft, {}, session, "undo")
        for number in range(160):
            session.redo()
            self.assertEqual(session.log(), logs[number + 1])
        self.deny(NothingLeft, {}, session, "redo")

    def test_drawn_turns(self):
        source = random.Random(22)
        refused = 0
        for number in range(25):
            desk = drawn_desk(source, source.randint(1, 5))
            session = Session(drawn_log(source, desk, drawn_order(source, desk), 4))
            past, future = [], []
            for turn in range(20):
                now = session.log()
                word = source.choice(("undo", "redo", "turn", "turn", "turn"))
                if word != "turn":
                    stack, other = (past, future) if word == "undo" else (future, past)
                    if not stack:
                        self.deny(NothingLeft, {}, session, word)
                        continue
                    getattr(session, word)()
                    other.append(now)
                    self.check_log(session, stack.pop(), (len(past), len(future)))
                    continue
                deeds = [self.drawn_deed(source, now) for count in range(source.choice((0, 1, 1, 2, 4)))]
                expected = self.after(now, deeds)
                if isinstance(expected, Log):
                    session.do_all(deeds)
                    past.append(now)
                    future = []
                    self.check_log(session, expected, (len(past), 0))
                else:
                    refused += 1
                    attributes = {name: value for name, value in vars(expected).items() if name != "word"}
                    self.deny(type(expected), attributes, session, "do_all", deeds)
        self.assertGreater(refused, 40)

    def drawn_deed(self, source, log):
        stamp = (source.randint(0, 30), source.choice(USERS))
        known = source.choice(log.entries())[0] if len(log) and source.random() < 0.8 else stamp
        word = source.choice(("add", "add", "strike", "restore", "merge"))
        if word == "add":
            return word, stamp, drawn_step(source, log.desk())
        if word == "merge":
            return word, drawn_log(source, log.desk(), log.order(), 2)
        return word, known

    def after(self, log, deeds):
        """The log after some deeds, or the error of the first one that raises one."""
        found = copy.deepcopy(log)
        try:
            for word, *given in deeds:
                getattr(found, word)(*given)
        except (ValueError, LookupError) as error:
            return error
        return found


class Refusals(SessionCase):
    def test_bad_deed(self):
        session = new_session((ONE, UP, False))
        for wrong in WRONG_DEEDS:
            self.deny(BadDeed, {"at": 0}, session, "do", wrong)
            self.deny(BadDeed, {"at": 0}, session, "do_all", [wrong])
            self.deny(BadDeed, {"at": 2}, session, "do_all", (("strike", ONE), ("restore", ONE), wrong, ("jump",)))

    def test_bad_deed_comes_before_the_error_of_any_deed(self):
        session = new_session((ONE, UP, False))
        for wrong in (("strike", TWO), ("add", ONE, UP), ("add", (-1, "ann"), UP), ("add", TWO, ("jump",)),
                      ("merge", Log(pile_of(2), ["a", "b"]))):
            for bad in WRONG_DEEDS:
                self.deny(BadDeed, {"at": 1}, session, "do_all", [wrong, bad, ("jump",)])

    def test_the_error_of_the_first_deed_that_raises_one(self):
        session = new_session((ONE, UP, False))
        wrong = {("add", (-1, "ann"), ("jump",)): (BadStamp, {}), ("add", ONE, ("jump",)): (BadStep, {"at": 0}),
                 ("add", ONE, ("place", "a", (0, 0, 1, 1))): (Taken, {"stamp": ONE}), ("strike", TWO): (NoStamp, {"stamp": TWO}),
                 ("restore", THREE): (NoStamp, {"stamp": THREE}), ("strike", (1,)): (NoStamp, {"stamp": (1,)})}
        merges = [(("merge", Log(pile_of(2), ["a", "b"])), (OtherLog, {})),
                  (("merge", log_of((ONE, DOWN, False))), (Clash, {"stamp": ONE}))]
        for deed, (error, attributes) in [*wrong.items(), *merges]:
            self.deny(error, attributes, session, "do", deed)
            for other in [*wrong, merges[0][0]]:
                self.deny(error, attributes, session, "do_all", [("strike", ONE), ("add", (8, "z"), DOWN), deed, other])

    def test_errors_of_add(self):
        session = new_session((ONE, UP, False))
        self.deny(BadStamp, {}, session, "add", (1, "Ann"), ("jump",))
        self.deny(BadStep, {"at": 0}, session, "add", ONE, ("repeat", 1, []))
        self.deny(Taken, {"stamp": ONE}, session, "add", ONE, UP)

    def test_a_deed_may_depend_on_the_one_before(self):
        session = new_session()
        session.do_all([("add", ONE, UP), ("strike", ONE)])
        self.deny(Taken, {"stamp": TWO}, session, "do_all", [("add", TWO, UP), ("add", TWO, UP)])
        self.check_log(session, log_of((ONE, UP, True)), (1, 0))

    def test_200_entries_and_one_more(self):
        deeds = [("add", stamp, step) for stamp, step, struck in numbered(0, 201)]
        session = new_session()
        self.deny(Full, {"most": 200}, session, "do_all", deeds)
        session.do_all(deeds[:200])
        self.assertEqual((len(session), session.turns()), (200, (1, 0)))
        self.deny(Full, {"most": 200}, session, "add", (200, "ann"), UP)
        self.deny(Full, {"most": 200}, session, "do", ("merge", log_of(*numbered(200, 201))))
        session.do(("merge", log_of(*numbered(0, 200))))
        self.assertEqual((len(session), session.turns()), (200, (2, 0)))

    def test_too_many_entries_by_a_merge(self):
        session = new_session(*numbered(0, 150))
        self.deny(Full, {"most": 200}, session, "do", ("merge", log_of(*numbered(100, 201))))
        self.deny(Full, {"most": 200}, session, "do_all", [("add", (500, "z"), UP), ("merge", log_of(*numbered(100, 200)))])
        session.do(("merge", log_of(*numbered(100, 200))))
        self.assertEqual(len(session), 200)


class Watches(SessionCase):
    def test_most_watches(self):
        self.assertEqual(MOST_WATCHES, 16)

    def test_pairs(self):
        session = new_session()
        self.assertEqual([session.watch(("pair", "a", "b")), session.watch(("pair", "b", "a"))], [1, 2])
        self.assertEqual(self.ask(session, "answers"), [(1, "over"), (2, "under")])
        session.add(ONE, ("raise", ["b"]))
        self.assertEqual(self.ask(session, "answers"), [(1, "under"), (2, "over")])
        session.add(TWO, ("place", "b", (50, 50, 51, 51)))
        self.assertEqual(self.ask(session, "answers"), [(1, "apart"), (2, "apart")])

    def test_cells(self):
        session = new_session()
        for x, y in ((0, 0), (1, 1), (9, 9), (10 ** 29, -10 ** 29)):
            session.watch(("cell", x, y))
        self.assertEqual(self.ask(session, "answers"), [(1, "a"), (2, "c"), (3, None), (4, None)])
        session.do_all([("add", ONE, ("raise", ["b"])), ("add", TWO, ("place", "c", (9, 9, 10, 10)))])
        self.assertEqual(self.ask(session, "answers"), [(1, "a"), (2, "b"), (3, "c"), (4, None)])

    def test_news(self):
        session = new_session()
        session.watch(("pair", "a", "b"))
        session.watch(("cell", 1, 1))
        session.watch(("cell", 0, 0))
        self.assertEqual(session.news(), [])
        session.add(ONE, ("raise", ["b"]))
        self.assertEqual(self.ask(session, "answers"), [(1, "under"), (2, "b"), (3, "a")])
        self.assertEqual(session.news(), [1, 2])
        self.assertEqual(session.news(), [])
        session.undo()
        self.assertEqual((session.news(), session.news()), ([1, 2], []))

    def test_changes_that_are_taken_back_before_they_are_told(self):
        session = new_session()
        session.watch(("cell", 1, 1))
        session.add(ONE, UP)
        session.undo()
        self.assertEqual(session.news(), [])
        session.redo()
        self.assertEqual(session.news(), [1])
        session.undo()
        session.redo()
        self.assertEqual(session.news(), [])

    def test_the_answer_at_the_time_when_the_watch_was_made(self):
        session = new_session()
        session.add(ONE, UP)
        session.watch(("cell", 1, 1))
        self.assertEqual(session.news(), [])
        session.undo()
        session.watch(("cell", 1, 1))
        self.assertEqual(session.news(), [1])
        session.redo()
        self.assertEqual(session.news(), [1, 2])

    def test_news_are_new_lists(self):
        session = new_session()
        session.watch(("cell", 1, 1))
        session.add(ONE, UP)
        found = session.news()
        spoil(found)
        spoil(session.answers())
        session.undo()
        self.assertEqual((session.news(), session.answers()), ([1], [(1, "c")]))

    def test_bad_watch(self):
        wrong = ((), ("pair",), ("cell",), ("pair", "a"), ("cell", 1), ("pair", "a", "b", "c"), ("cell", 1, 2, 3), ("jump", "a", "b"),
                 ("Pair", "a", "b"), ("", 1, 2), ("pair", "a", "a"), ("pair", "a", "x"), ("pair", "x", "a"), ("pair", "x", "y"),
                 ("pair", "", "a"), ("pair", "x", "x"), ("pair", 1, 2), ("pair", "a", 1), ("cell", "a", "b"), ("cell", "1", "2"),
                 ("cell", 1, "2"), ("cell", "1", 2), ("cell", "a", 1), (1, 2, 3), ("a", "b"), (0, "a", "b"))
        session = new_session()
        for count in range(17):
            for question in wrong:
                self.deny(BadWatch, {}, session, "watch", question)
            if count < 16:
                self.assertEqual(session.watch(("cell", count, 0)), count + 1)
        self.deny(Full, {"most": 16}, session, "watch", ("cell", 0, 0))
        self.deny(Full, {"most": 16}, session, "watch", ("pair", "a", "b"))

    def test_a_removed_watch_makes_room_and_its_number_is_not_used_again(self):
        session = new_session()
        for number in range(16):
            session.watch(("cell", number, 0))
        for number, expected in ((16, 17), (1, 18), (17, 19), (8, 20)):
            self.assertIsNone(session.unwatch(number))
            self.deny(NoWatch, {"number": number}, session, "unwatch", number)
            self.assertEqual(session.watch(("cell", 0, 0)), expected)
            self.deny(Full, {"most": 16}, session, "watch", ("cell", 0, 0))
        numbers = [2, 3, 4, 5, 6, 7, 9, 10, 11, 12, 13, 14, 15, 18, 19, 20]
        self.assertEqual([number for number, answer in self.ask(session, "answers")], numbers)
        for number in numbers:
            session.unwatch(number)
        self.assertEqual((session.answers(), session.news()), ([], []))
        self.assertEqual(session.watch(("cell", 0, 0)), 21)

    def test_no_watch(self):
        session = new_session()
        session.watch(("cell", 0, 0))
        for number in (0, 2, -1, 10 ** 29):
            self.deny(NoWatch, {"number": number}, session, "unwatch", number)

    def test_watches_are_not_part_of_the_turns(self):
        session = new_session()
        session.add(ONE, UP)
        session.undo()
        session.watch(("cell", 1, 1))
        self.assertEqual(session.turns(), (0, 1))
        session.redo()
        session.unwatch(1)
        session.undo()
        self.assertEqual((session.answers(), session.turns()), ([], (0, 1)))

    def test_refused_watches_use_no_number(self):
        session = new_session()
        self.deny(BadWatch, {}, session, "watch", ("pair", "a", "a"))
        self.assertEqual(session.watch(("pair", "a", "b")), 1)

    def test_drawn_watches(self):
        source = random.Random(23)
        told_news = 0
        for number in range(60):
            desk = drawn_desk(source, source.randint(2, 5), 4)
            session = Session(Log(desk, drawn_order(source, desk)))
            asked, told, made = {}, {}, 0
            for turn in range(40):
                word = source.choice(("add", "add", "undo", "redo", "watch", "unwatch", "news", "news"))
                if word == "add":
                    session.add((turn, "ann"), drawn_step(source, desk))
                elif word in ("undo", "redo") and session.turns()[word == "redo"]:
                    getattr(session, word)()
                elif word == "watch" and len(asked) < 16:
                    question = ("pair", *source.sample(desk.names(), 2))
                    if source.random() < 0.6:
                        question = ("cell", source.randint(-3, 5), source.randint(-3, 5))
                    made += 1
                    self.assertEqual(session.watch(question), made)
                    asked[made] = question
                    told[made] = self.answer_to(session, question)
                elif word == "unwatch" and asked and source.random() < 0.4:
                    removed = source.choice(list(asked))
                    session.unwatch(removed)
                    del asked[removed], told[removed]
                now = {number: self.answer_to(session, asked[number]) for number in asked}
                self.assertEqual(self.ask(session, "answers"), sorted(now.items()))
                if word == "news":
                    expected = [number for number in sorted(now) if now[number] != told[number]]
                    self.assertEqual(session.news(), expected)
                    told = now
                    told_news += len(expected)
        self.assertGreater(told_news, 50)

    def answer_to(self, session, question):
        """The answer to a question, by the words of [23]."""
        word, one, other = question
        desk, order = session.desk(), session.order()
        if word == "cell":
            there = [name for name in order if covers(desk.rectangle(name), one, other)]
            return there[-1] if there else None
        if not desk.overlap(one, other):
            return "apart"
        return "over" if order.index(one) > order.index(other) else "under"


class Values(SessionCase):
    def busy(self):
        """A session with turns to undo and to redo, and with watches and news to come."""
        session = new_session((ONE, UP, False))
        session.watch(("cell", 1, 1))
        session.watch(("pair", "a", "b"))
        session.unwatch(1)
        session.watch(("cell", 1, 1))
        session.add(TWO, ("raise", ["b"]))
        session.add(THREE, DOWN)
        session.undo()
        return session

    def test_twin(self):
        session = self.busy()
        twin = session.twin()
        self.assertIsNot(twin, session)
        self.check_same(twin, session)
        self.assertEqual((twin.turns(), twin.answers(), twin.news()), ((1, 1), [(2, "under"), (3, "b")], [2, 3]))
        self.assertEqual(session.news(), [2, 3])

    def test_twins_are_independent(self):
        for change in (lambda session: session.undo(), lambda session: session.redo(), lambda session: session.news(),
                       lambda session: session.do_all([]), lambda session: session.watch(("cell", 0, 0)),
                       lambda session: session.unwatch(2), lambda session: session.do(("strike", ONE))):
            session = self.busy()
            twin = session.twin()
            change(twin)
            self.check_same(session, self.busy())
            twin = session.twin()
            change(session)
            self.check_same(twin, self.busy())

    def test_numbers_of_watches_go_on_in_both(self):
        session = self.busy()
        twin = session.twin()
        self.assertEqual([session.watch(("cell", 0, 0)), twin.watch(("cell", 5, 5)), twin.watch(("cell", 0, 0))], [4, 4, 5])
        self.assertEqual(len(session.answers()), 3)

    def test_equal_sessions(self):
        session = self.busy()
        other = new_session((TWO, ("raise", ["b"]), False), (ONE, UP, False))
        self.assertIs(session == other, True)
        self.assertIs(session != other, False)
        self.assertIs(other == session, True)
        session.undo()
        self.assertIs(session == other, False)
        self.assertIs(session != other, True)

    def test_equal_to_nothing_else(self):
        session = self.busy()
        for other in (None, 0, "", [], session.log(), DESK, {}, object()):
            self.assertIs(session == other, False)
            self.assertIs(session != other, True)
            self.assertIs(other == session, False)

    def test_len(self):
        session = new_session()
        for count in range(3):
            self.assertEqual(len(session), count)
            session.add((count, "ann"), UP)
        session.do(("strike", (0, "ann")))
        self.assertEqual(len(session), 3)
        session.undo()
        session.undo()
        self.assertEqual(len(session), 2)


class Arguments(SessionCase):
    def test_by_name(self):
        session = Session(log=log_of())
        session.do(deed=("add", ONE, UP))
        session.do_all(deeds=[("strike", ONE)])
        session.add(step=DOWN, stamp=TWO)
        self.assertEqual(self.ask(session, "seen", y=0, x=0), "a")
        self.assertEqual(session.watch(question=("cell", 0, 0)), 1)
        session.unwatch(number=1)
        self.check_log(session, log_of((ONE, UP, True), (TWO, DOWN, False)), (3, 0))

    def test_parameters(self):
        expected = {"do": ["deed"], "do_all": ["deeds"], "add": ["stamp", "step"], "undo": [], "redo": [], "turns": [], "log": [],
                    "order": [], "desk": [], "seen": ["x", "y"], "watch": ["question"], "unwatch": ["number"], "answers": [],
                    "news": [], "twin": [], "__eq__": ["other"], "__len__": [], "__init__": ["log"]}
        for name, parameters in expected.items():
            self.assertIn(name, vars(Session))
            self.assertEqual(inspect.getfullargspec(vars(Session)[name]).args[1:], parameters, name)

    def test_arguments_are_not_changed(self):
        deeds = [("add", ONE, ("raise", ["b", "a"])), ("merge", log_of((TWO, DOWN, False))), ("strike", TWO)]
        before = copy.deepcopy(deeds)
        new_session().do_all(deeds)
        self.assertEqual(deeds, before)
        self.assertEqual(deeds[1][1].entries(), [(TWO, DOWN, False)])


if __name__ == "__main__":
    unittest.main()
