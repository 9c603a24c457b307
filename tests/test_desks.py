"""[2] to [4] Desks: their windows, overlapping windows and pairs."""

import itertools
import unittest
from unittest import mock

from raisekeys.desks import MOST_WINDOWS, Desk, is_name
from raisekeys.errors import BadName, BadRectangle, BadSize, Unknown

RIGHT = (0, 0, 4, 4)
WRONG = (3, 0, 3, 5)
WRONG_NAMES = ("", "abcdefg", "A", "aB", "Abc", "abcdeF", "1", "a1", "a b", " ", " a", "a ", "\n", "a\n", "\na",
               "a_b", "a-b", "`", "{", "a\nb")


def many(count):
    """A dict of so many windows in a row, the last name first."""
    letters = "abcdefghijklmnopqrstuvwxyz"
    return {letters[at]: (at, 0, at + 2, 1) for at in reversed(range(count))}


def four():
    return {"d": (3, 3, 9, 9), "b": (3, 0, 9, 5), "a": (0, 0, 4, 4), "c": (20, 0, 21, 1)}


class DeskCase(unittest.TestCase):
    def refused(self, windows, error, name):
        """The dict is refused with this error for this name, and it is not changed."""
        before = list(windows.items())
        with self.assertRaises(error) as caught:
            Desk(windows)
        self.assertEqual((caught.exception.name, caught.exception.word), (name, error.__name__))
        self.assertEqual(list(windows.items()), before)


class Size(DeskCase):
    def test_most_windows(self):
        self.assertEqual(MOST_WINDOWS, 24)

    def test_one_and_24_windows(self):
        for count in (1, 2, 23, 24):
            self.assertEqual(len(Desk(many(count))), count)

    def test_none_and_25_windows(self):
        for count in (0, 25, 26):
            with self.assertRaises(BadSize) as caught:
                Desk(many(count))
            self.assertEqual(caught.exception.word, "BadSize")

    def test_bad_size_comes_before_all_else(self):
        windows = {**many(24), "A": RIGHT}
        windows["a"] = WRONG
        with self.assertRaises(BadSize):
            Desk(windows)


class Names(DeskCase):
    def test_right_names(self):
        for name in ("a", "z", "ab", "abcde", "abcdef", "zzzzzz"):
            self.assertEqual(Desk({name: RIGHT}).names(), [name])
        for letter in "abcdefghijklmnopqrstuvwxyz":
            self.assertEqual(Desk({letter: RIGHT}).names(), [letter])

    def test_every_other_character_is_wrong(self):
        for sign in [chr(code) for code in range(32, 127)] + ["\n"]:
            if not "a" <= sign <= "z":
                self.refused({sign: RIGHT}, BadName, sign)
                self.refused({"a" + sign + "b": RIGHT}, BadName, "a" + sign + "b")

    def test_only_a_text_is_a_name(self):
        for value in (5, None, ["a"], ("a", "b")):
            self.assertIs(is_name(value), False, value)
        self.assertIs(is_name("ab"), True)

    def test_wrong_names(self):
        for name in WRONG_NAMES:
            self.refused({name: RIGHT}, BadName, name)
            self.refused({"a": RIGHT, name: RIGHT, "zz": RIGHT}, BadName, name)

    def test_the_first_wrong_name_in_ascending_order(self):
        windows = {"b1": RIGHT, "a b": RIGHT, "B": RIGHT, "a": RIGHT, "abcdefg": RIGHT}
        for keys in itertools.permutations(windows):
            self.refused({key: windows[key] for key in keys}, BadName, "B")
        del windows["B"]
        for keys in itertools.permutations(windows):
            self.refused({key: windows[key] for key in keys}, BadName, "a b")

    def test_bad_name_comes_before_bad_rectangle(self):
        self.refused({"a": WRONG, "z1": RIGHT}, BadName, "z1")
        self.refused({"z1": RIGHT, "a": WRONG}, BadName, "z1")
        self.refused({"a": RIGHT, "z1": WRONG}, BadName, "z1")


class Rectangles(DeskCase):
    def test_wrong_rectangles(self):
        for wrong in (WRONG, (0, 5, 3, 5), (4, 0, 0, 4), (0, 4, 4, 0), (0, 0, 10 ** 9 + 1, 1),
                      (0, 0, 1, 10 ** 9 + 1), (-10 ** 9 - 1, 0, 1, 1), (0, -10 ** 9 - 1, 1, 1)):
            self.refused({"a": RIGHT, "b": wrong, "c": RIGHT}, BadRectangle, "b")

    def test_rectangles_at_the_bounds(self):
        whole = (-10 ** 9, -10 ** 9, 10 ** 9, 10 ** 9)
        self.assertEqual(Desk({"a": whole}).rectangle("a"), whole)

    def test_the_first_wrong_rectangle_in_ascending_order(self):
        windows = {"d": WRONG, "b": WRONG, "a": RIGHT, "c": WRONG}
        for keys in itertools.permutations(windows):
            self.refused({key: windows[key] for key in keys}, BadRectangle, "b")


class Queries(DeskCase):
    def test_names_are_ascending_for_any_order_of_the_keys(self):
        windows = four()
        for keys in itertools.permutations(windows):
            desk = Desk({key: windows[key] for key in keys})
            self.assertEqual(desk.names(), ["a", "b", "c", "d"])
            self.assertEqual(desk.pairs(), [("a", "b"), ("a", "d"), ("b", "d")])
        self.assertEqual(Desk({"b": RIGHT, "ab": RIGHT, "abc": RIGHT, "aa": RIGHT}).names(), ["aa", "ab", "abc", "b"])

    def test_rectangle(self):
        desk = Desk(four())
        for name, rectangle in four().items():
            self.assertEqual(desk.rectangle(name), rectangle)
            self.assertIs(type(desk.rectangle(name)), tuple)

    def test_rectangle_of_an_unknown_window(self):
        for name in ("e", "", "A", "aa"):
            with self.assertRaises(Unknown) as caught:
                Desk(four()).rectangle(name)
            self.assertEqual((caught.exception.name, caught.exception.word), (name, "Unknown"))

    def test_overlap_of_every_two_windows(self):
        desk = Desk(four())
        overlapping = [{"a", "b"}, {"a", "d"}, {"b", "d"}]
        for one, other in itertools.product("abcd", repeat=2):
            expected = one == other or {one, other} in overlapping
            self.assertIs(desk.overlap(one, other), expected, (one, other))

    def test_windows_that_only_touch_do_not_overlap(self):
        desk = Desk({"a": (0, 0, 4, 4), "b": (4, 0, 8, 4), "c": (0, 4, 4, 8), "d": (4, 4, 8, 8)})
        self.assertEqual(desk.pairs(), [])
        self.assertIs(desk.overlap("a", "d"), False)

    def test_overlap_of_unknown_windows(self):
        desk = Desk(four())
        for one, other, unknown in (("x", "a", "x"), ("a", "y", "y"), ("y", "x", "y"), ("x", "y", "x"), ("x", "x", "x")):
            with self.assertRaises(Unknown) as caught:
                desk.overlap(one, other)
            self.assertEqual(caught.exception.name, unknown)

    def test_pairs(self):
        self.assertEqual(Desk({"a": RIGHT}).pairs(), [])
        row = Desk(many(24))
        names = row.names()
        self.assertEqual(row.pairs(), list(zip(names, names[1:])))
        pile = Desk({name: RIGHT for name in reversed(names)})
        self.assertEqual(pile.pairs(), list(itertools.combinations(names, 2)))


class Placed(DeskCase):
    def test_a_new_desk_with_another_rectangle(self):
        desk = Desk(four())
        other = desk.placed("c", (0, 0, 1, 1))
        self.assertIs(type(other), Desk)
        self.assertEqual(other, Desk({**four(), "c": (0, 0, 1, 1)}))
        self.assertEqual(other.pairs(), [("a", "b"), ("a", "c"), ("a", "d"), ("b", "d")])
        self.assertEqual(desk, Desk(four()))
        self.assertEqual(desk.pairs(), [("a", "b"), ("a", "d"), ("b", "d")])

    def test_with_its_own_rectangle(self):
        desk = Desk(four())
        self.assertEqual(desk.placed("a", desk.rectangle("a")), desk)
        self.assertIsNot(desk.placed("a", desk.rectangle("a")), desk)

    def test_a_full_desk(self):
        desk = Desk(many(24))
        self.assertEqual(desk.placed("x", RIGHT).rectangle("x"), RIGHT)
        self.assertEqual(len(desk.placed("x", RIGHT)), 24)

    def test_unknown_comes_before_bad_rectangle(self):
        desk = Desk(four())
        for name, rectangle in (("x", RIGHT), ("x", WRONG), ("A", WRONG), ("", RIGHT)):
            with self.assertRaises(Unknown) as caught:
                desk.placed(name, rectangle)
            self.assertEqual(caught.exception.name, name)
            self.assertEqual(desk, Desk(four()))

    def test_unknown_on_a_full_desk(self):
        with self.assertRaises(Unknown):
            Desk(many(24)).placed("zz", RIGHT)

    def test_bad_rectangle(self):
        desk = Desk(four())
        for wrong in (WRONG, (0, 4, 4, 0), (0, 0, 10 ** 9 + 1, 1)):
            for name in "abcd":
                with self.assertRaises(BadRectangle) as caught:
                    desk.placed(name, wrong)
                self.assertEqual(caught.exception.name, name)
                self.assertEqual(desk, Desk(four()))


class Comparing(DeskCase):
    def test_equal_desks(self):
        windows = four()
        for keys in itertools.permutations(windows):
            other = Desk({key: windows[key] for key in keys})
            self.assertTrue(Desk(four()) == other)
            self.assertFalse(Desk(four()) != other)

    def test_unequal_desks(self):
        desk = Desk(four())
        fewer = four()
        del fewer["c"]
        renamed = {**fewer, "e": four()["c"]}
        for windows in (fewer, renamed, {**four(), "e": RIGHT}, {**four(), "c": (20, 0, 21, 2)},
                        {**four(), "a": four()["b"], "b": four()["a"]}):
            self.assertFalse(desk == Desk(windows))
            self.assertFalse(Desk(windows) == desk)
            self.assertTrue(desk != Desk(windows))

    def test_other_values(self):
        desk = Desk(four())
        for other in (four(), list(four().items()), None, 4, "Desk(4 windows)", ["a", "b", "c", "d"], Desk, mock.ANY):
            self.assertFalse(desk == other)
            self.assertTrue(desk != other)

    def test_len_and_repr(self):
        for count in (1, 2, 11, 24):
            self.assertEqual(len(Desk(many(count))), count)
            self.assertEqual(repr(Desk(many(count))), f"Desk({count} windows)")
            self.assertEqual(str(Desk(many(count))), f"Desk({count} windows)")


class Copies(DeskCase):
    def test_the_passed_dict_is_not_changed(self):
        windows = four()
        desk = Desk(windows)
        desk.placed("a", (5, 5, 6, 6))
        self.assertEqual(list(windows.items()), list(four().items()))

    def test_the_desk_keeps_a_copy_of_the_passed_dict(self):
        windows = four()
        desk = Desk(windows)
        windows["a"] = (50, 50, 51, 51)
        windows["e"] = RIGHT
        del windows["b"]
        self.assertEqual(desk, Desk(four()))
        self.assertEqual(desk.names(), ["a", "b", "c", "d"])
        windows.clear()
        self.assertEqual((len(desk), repr(desk)), (4, "Desk(4 windows)"))

    def test_returned_lists_are_new(self):
        desk = Desk(four())
        desk.names().append("e")
        desk.names().reverse()
        desk.pairs().clear()
        desk.pairs().append(("a", "c"))
        self.assertEqual(desk.names(), ["a", "b", "c", "d"])
        self.assertEqual(desk.pairs(), [("a", "b"), ("a", "d"), ("b", "d")])
        self.assertIs(type(desk.names()), list)
        self.assertIs(type(desk.pairs()), list)
        self.assertIs(type(desk.pairs()[0]), tuple)

    def test_a_placed_desk_is_independent(self):
        desk = Desk(four())
        other = desk.placed("c", RIGHT)
        third = other.placed("a", (50, 50, 51, 51))
        self.assertEqual((desk.rectangle("c"), other.rectangle("c"), third.rectangle("c")), ((20, 0, 21, 1), RIGHT, RIGHT))
        self.assertEqual((other.rectangle("a"), third.rectangle("a")), ((0, 0, 4, 4), (50, 50, 51, 51)))


class Arguments(DeskCase):
    def test_by_name(self):
        desk = Desk(windows=four())
        self.assertEqual(desk, Desk(four()))
        self.assertEqual(desk.rectangle(name="b"), (3, 0, 9, 5))
        self.assertIs(desk.overlap(other="b", one="a"), True)
        self.assertEqual(desk.placed(rectangle=RIGHT, name="c"), Desk({**four(), "c": RIGHT}))
        with self.assertRaises(Unknown) as caught:
            desk.overlap(other="x", one="y")
        self.assertEqual(caught.exception.name, "y")

    def test_each_method_stands_in_the_class_itself(self):
        for method in ("names", "rectangle", "overlap", "pairs", "placed", "__eq__", "__len__", "__repr__"):
            self.assertIn(method, vars(Desk))


if __name__ == "__main__":
    unittest.main()
