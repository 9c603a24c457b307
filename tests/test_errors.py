"""[errors] Each class, its base classes, `word` and its further attributes."""

import unittest

from raisekeys import errors
from raisekeys.desks import Desk
from raisekeys.logs import Log
from raisekeys.orders import alike
from raisekeys.pages import read_page
from raisekeys.plans import plan
from raisekeys.sessions import Session
from raisekeys.sights import demanded
from raisekeys.steps import check_script
from raisekeys.stories import least_start
from raisekeys.texts import parse_script
from raisekeys.wishes import keeps, least_keeping

UNDER_DESK_ERROR = {
    "BadName": "name", "BadRectangle": "name", "BadSize": None, "BadOrder": None, "BadStep": "at",
    "TooLong": None, "BadWish": "at", "BadFact": "at", "BadCost": "name", "Impossible": None,
    "BadStamp": None, "Taken": "stamp", "Clash": "stamp", "OtherLog": None, "Full": "most",
    "BadDeed": "at", "BadWatch": None, "BadText": "at", "BadPage": "row",
}
UNDER_MISSING = {"Unknown": "name", "NoStamp": "stamp", "NoWatch": "number"}
SAMPLES = {"name": "ab", "at": 3, "stamp": (7, "ann"), "most": 200, "row": 0, "number": 16}


def made(word, attribute):
    """An error of this class, with the sample value of its attribute."""
    if attribute is None:
        return getattr(errors, word)()
    return getattr(errors, word)(SAMPLES[attribute])


def two():
    return Desk({"a": (0, 0, 2, 2), "b": (1, 0, 3, 2)})


def log_with(*steps):
    """A log with the stamps (0, "ann"), (1, "ann") and so on."""
    log = Log(two(), ["a", "b"])
    for number, step in enumerate(steps):
        log.add((number, "ann"), step)
    return log


def watched(count):
    """A session with so many watches."""
    session = Session(log_with())
    for number in range(count):
        session.watch(("cell", number, 0))
    return session


UP, DOWN = ("raise", ["a"]), ("lower", ["a"])
CALLS = {
    "BadName": ("X", lambda: Desk({"a": (0, 0, 1, 1), "X": (0, 0, 1, 1)})),
    "BadRectangle": ("b", lambda: two().placed("b", (0, 0, 0, 1))),
    "BadSize": (None, lambda: Desk({})),
    "BadOrder": (None, lambda: alike(two(), ["a", "b"], ["a"])),
    "BadStep": (2, lambda: check_script(two(), [UP, DOWN, ("jump",)])),
    "TooLong": (None, lambda: check_script(two(), [UP] * 401)),
    "BadWish": (1, lambda: keeps(["a", "b"], [("a", "b"), ("a", "a")])),
    "BadFact": (1, lambda: demanded(two(), [(0, 0, "a"), (0, 0, "b")])),
    "BadCost": ("b", lambda: plan(["a", "b"], [], costs={"b": 0})),
    "Impossible": (None, lambda: least_keeping(["a", "b"], [("a", "b"), ("b", "a")])),
    "BadStamp": (None, lambda: log_with().add((-1, "ann"), UP)),
    "Taken": ((0, "ann"), lambda: log_with(UP).add((0, "ann"), UP)),
    "Clash": ((1, "ann"), lambda: log_with(UP, UP).merge(log_with(UP, DOWN))),
    "OtherLog": (None, lambda: log_with().merge(Log(two(), ["b", "a"]))),
    "Full": (200, lambda: log_with(*[UP] * 201)),
    "BadDeed": (1, lambda: Session(log_with()).do_all([("add", (0, "ann"), UP), ("jump",)])),
    "BadWatch": (None, lambda: watched(0).watch(("pair", "a", "a"))),
    "BadText": (1, lambda: parse_script("raise a\nraise\n")),
    "BadPage": (1, lambda: read_page("window a 0 0 1 1\nwindow a 0 0 1 1\n")),
    "Unknown": ("x", lambda: two().overlap("a", "x")),
    "NoStamp": ((1, "ann"), lambda: log_with(UP).strike((1, "ann"))),
    "NoWatch": (2, lambda: watched(1).unwatch(2)),
    "NothingLeft": (None, lambda: watched(1).undo()),
}


class Calls(unittest.TestCase):
    def caught(self, call):
        with self.assertRaises((errors.DeskError, errors.Missing, errors.NothingLeft)) as found:
            call()
        return found.exception

    def test_a_call_for_each_error(self):
        attributes = {**UNDER_DESK_ERROR, **UNDER_MISSING, "NothingLeft": None}
        self.assertEqual((set(CALLS), len(CALLS)), (set(attributes), 23))
        for word, (value, call) in CALLS.items():
            error = self.caught(call)
            self.assertIs(type(error), getattr(errors, word))
            expected = {"word": word}
            if attributes[word] is not None:
                expected[attributes[word]] = value
            self.assertEqual(vars(error), expected)

    def test_both_numbers_of_full(self):
        self.assertEqual(vars(self.caught(lambda: watched(17))), {"word": "Full", "most": 16})
        self.assertEqual(vars(self.caught(lambda: log_with(*[UP] * 201))), {"word": "Full", "most": 200})

    def test_impossible_stories(self):
        error = self.caught(lambda: least_start(two(), [("see", [(1, 0, "a"), (1, 0, "b")])]))
        self.assertIs(type(error), errors.Impossible)


class Errors(unittest.TestCase):
    def test_there_are_twenty_three_errors_and_two_base_classes(self):
        found = {name for name, value in vars(errors).items() if isinstance(value, type)}
        expected = {"DeskError", "Missing", "NothingLeft", *UNDER_DESK_ERROR, *UNDER_MISSING}
        self.assertEqual(found, expected)
        self.assertEqual(len(expected), 25)

    def test_base_classes_and_no_others(self):
        self.assertEqual(errors.DeskError.__bases__, (ValueError,))
        self.assertEqual(errors.Missing.__bases__, (LookupError,))
        self.assertEqual(errors.NothingLeft.__bases__, (IndexError,))
        for word in UNDER_DESK_ERROR:
            self.assertEqual(getattr(errors, word).__bases__, (errors.DeskError,), word)
        for word in UNDER_MISSING:
            self.assertEqual(getattr(errors, word).__bases__, (errors.Missing,), word)

    def test_no_class_is_under_another_one_except_under_its_base(self):
        words = [*UNDER_DESK_ERROR, *UNDER_MISSING, "NothingLeft"]
        for word in words:
            for other in words:
                is_under = issubclass(getattr(errors, word), getattr(errors, other))
                self.assertEqual(is_under, word == other, (word, other))
        for base in (errors.DeskError, errors.Missing):
            self.assertFalse(issubclass(errors.NothingLeft, base))
        for word in UNDER_DESK_ERROR:
            self.assertFalse(issubclass(getattr(errors, word), LookupError), word)
        for word in UNDER_MISSING:
            self.assertFalse(issubclass(getattr(errors, word), ValueError), word)

    def test_word_is_the_name_of_the_class(self):
        for word, attribute in {**UNDER_DESK_ERROR, **UNDER_MISSING, "NothingLeft": None}.items():
            self.assertEqual(made(word, attribute).word, word)
        self.assertEqual(errors.DeskError().word, "DeskError")
        self.assertEqual(errors.Missing().word, "Missing")

    def test_attributes_are_set_and_there_are_no_further_ones(self):
        for word, attribute in {**UNDER_DESK_ERROR, **UNDER_MISSING, "NothingLeft": None}.items():
            expected = {"word": word}
            if attribute is not None:
                expected[attribute] = SAMPLES[attribute]
            self.assertEqual(vars(made(word, attribute)), expected)

    def test_every_error_has_a_message(self):
        for word, attribute in {**UNDER_DESK_ERROR, **UNDER_MISSING, "NothingLeft": None}.items():
            self.assertNotEqual(str(made(word, attribute)), "", word)


if __name__ == "__main__":
    unittest.main()
