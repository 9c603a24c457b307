"""[24] The texts of numbers, steps and plain scripts."""

import inspect
import itertools
import random
import unittest

from helpers import LETTERS, Case, drawn_desk, drawn_step
from raisekeys.errors import BadText
from raisekeys.texts import format_script, format_step, parse_script, parse_step

MOST = 10 ** 9
WRITTEN = {
    "raise a": ("raise", ["a"]),
    "lower a": ("lower", ["a"]),
    "raise b a": ("raise", ["b", "a"]),
    "lower abcdef z a b": ("lower", ["abcdef", "z", "a", "b"]),
    "raise raise": ("raise", ["raise"]),
    "lower place raise lower": ("lower", ["place", "raise", "lower"]),
    "place ab 0 -3 5 4": ("place", "ab", (0, -3, 5, 4)),
    "place place 0 0 1 1": ("place", "place", (0, 0, 1, 1)),
    "place a -1000000000 -1000000000 1000000000 1000000000": ("place", "a", (-MOST, -MOST, MOST, MOST)),
    "place a 999999999 -10 1000000000 -9": ("place", "a", (MOST - 1, -10, MOST, -9)),
}
WRONG_WORDS = ("", " ", "\n", "raise", "lower", "place", "raise ", " raise", "a", "a raise", "Raise a", "RAISE a", "raisea",
               "repeat 1", "see 0 0 a", "raise\na", "raise\n", "jump a", "0", "lowera b")
WRONG_NAMES = ("raise a a", "raise a b a", "lower ab ab", "raise A", "raise aB", "raise abcdefg", "raise a1", "raise 1",
               "raise a b cdefghi", "raise a  b", "raise  a", "raise a ", " raise a", "raise a\n", "raise a\nb", "raise \na",
               "raise a-b", "raise a,b", "raise ['a']", "raise a b\n", "lower ~", "lower _", "raise a\n b")
WRONG_PLACES = ("place a", "place a 0", "place a 0 0 1", "place a 0 0 1 1 1", "place 0 0 1 1", "place a b 0 0 1 1",
                "place A 0 0 1 1", "place abcdefg 0 0 1 1", "place  0 0 1 1", "place a  0 0 1 1", "place a 0  0 1 1",
                "place a 0 0 1 1 ", " place a 0 0 1 1", "place a 0 0 1 1\n", "place a 0 0 1\n1", "place a\n0 0 1 1",
                "place a 0 0 0 1", "place a 0 1 1 1", "place a 2 0 1 1", "place a 0 0 1000000001 1",
                "place a -1000000001 0 1 1", "place a 0 0 1 x", "place a x 0 1 1", "place a (0, 0, 1, 1)", "place a 0,0,1,1")
WRONG_NUMBERS = ("+1", "-0", "01", "00", "-01", "1.0", "1e3", "0x1", "1_0", "--1", "-", "+", "1-", "1\n", "\n1", "a", "1a",
                 "- 1", "9" * 31, "-" + "9" * 31, "1" + "0" * 30, "0" * 30)


class Steps(Case):
    def test_written_forms(self):
        for text, step in WRITTEN.items():
            self.assertEqual(self.answer(format_step, step), text)
            self.assertEqual(self.answer(parse_step, text), step)
            self.assertIs(type(self.answer(parse_step, text)), tuple)

    def test_names_as_tuples(self):
        self.assertEqual(self.answer(format_step, ("raise", ("b", "a"))), "raise b a")
        self.assertEqual(self.answer(format_script, (("raise", ("b", "a")), ("lower", ("c",)))), "raise b a\nlower c\n")
        self.assertIs(type(parse_step("raise b a")[1]), list)
        self.assertIs(type(parse_step("place a 0 0 1 1")[2]), tuple)

    def test_drawn_steps(self):
        source = random.Random(24)
        for number in range(300):
            desk = drawn_desk(source, source.randint(1, 4), source.choice((6, 2 * MOST // 3)))
            step = drawn_step(source, desk, source.choice((6, 10 ** 8)))
            text = format_step(step)
            read = parse_step(text)
            self.assertEqual(read, step if step[0] == "place" else (step[0], list(step[1])))
            self.assertEqual(format_step(read), text)

    def test_wrong_texts(self):
        for text in (*WRONG_WORDS, *WRONG_NAMES, *WRONG_PLACES):
            self.refused(BadText, {"at": 0}, parse_step, text)

    def test_wrong_numbers(self):
        for word, at in itertools.product(WRONG_NUMBERS, range(4)):
            words = ["0", "0", "1", "1"]
            words[at] = word
            self.refused(BadText, {"at": 0}, parse_step, "place a " + " ".join(words))

    def test_numbers_of_30_digits_are_numbers_but_no_sides(self):
        for word in ("9" * 30, "-" + "9" * 30):
            self.refused(BadText, {"at": 0}, parse_step, f"place a 0 0 1 {word}")

    def test_long_lists_of_names(self):
        names = ["".join(letters) for letters in itertools.product(LETTERS, repeat=2)][:400]
        text = " ".join(["raise", *names])
        self.assertEqual(parse_step(text), ("raise", names))
        self.refused(BadText, {"at": 0}, parse_step, text + " " + names[0])

    def test_a_character_or_a_word_changed(self):
        """Each text with a change is refused, or it is the written form of the step that is read from it."""
        source = random.Random(240)
        found = {True: 0, False: 0}
        for number in range(3000):
            text = source.choice(list(WRITTEN))
            at = source.randrange(len(text) + 1)
            change = source.choice((" ", "\n", "0", "-", "+", "a", "A", "", "  ", " a", " 1", "~"))
            changed = text[:at] + change + text[at + source.randint(0, 1):]
            try:
                step = parse_step(changed)
            except BadText as error:
                self.assertEqual(vars(error), {"word": "BadText", "at": 0})
                found[False] += 1
            else:
                self.assertEqual(format_step(step), changed)
                found[True] += 1
        self.assertGreater(min(found.values()), 100, found)


class Scripts(Case):
    def test_written_forms(self):
        for count in range(4):
            for texts in itertools.combinations(WRITTEN, count):
                text = "".join(f"{row}\n" for row in texts)
                steps = [WRITTEN[row] for row in texts]
                self.assertEqual(self.answer(format_script, steps), text)
                self.assertEqual(self.answer(parse_script, text), steps)

    def test_the_empty_script(self):
        self.assertEqual(self.answer(format_script, []), "")
        self.assertEqual(self.answer(format_script, ()), "")
        self.assertEqual(self.answer(parse_script, ""), [])

    def test_long_scripts(self):
        for count in (400, 401, 7500):
            text = "raise a\n" * count
            self.assertEqual(parse_script(text), [("raise", ["a"])] * count)
            self.assertEqual(format_script(parse_script(text)), text)
            self.refused(BadText, {"at": count}, parse_script, text + "raise b b\n")

    def test_the_first_wrong_row(self):
        rows = ["raise b", "lower a", "place a 0 0 1 1"]
        for wrong in (*WRONG_WORDS, *WRONG_NAMES, *WRONG_PLACES):
            if "\n" in wrong:
                continue
            for at in range(4):
                changed = [*rows[:at], wrong, *rows[at:], "raise x x"]
                text = "".join(f"{row}\n" for row in changed)
                self.refused(BadText, {"at": at}, parse_script, text)
                self.refused(BadText, {"at": at}, parse_script, text + "lower")

    def test_without_the_last_line_feed(self):
        rows = ["raise b", "lower a", "place a 0 0 1 1"]
        for count in range(3):
            text = "".join(f"{row}\n" for row in rows[:count])
            for rest in (rows[count], "raise", " ", "x", rows[count][:-1]):
                self.refused(BadText, {"at": count}, parse_script, text + rest)

    def test_empty_rows(self):
        self.refused(BadText, {"at": 0}, parse_script, "\n")
        self.refused(BadText, {"at": 0}, parse_script, "\nraise a\n")
        self.refused(BadText, {"at": 1}, parse_script, "raise a\n\n")
        self.refused(BadText, {"at": 1}, parse_script, "raise a\n\nraise b\n")
        self.refused(BadText, {"at": 0}, parse_script, "\n\n\n")

    def test_rows_removed_and_doubled(self):
        rows = list(WRITTEN)
        for at in range(len(rows)):
            for changed in (rows[:at] + rows[at + 1:], rows[:at + 1] + rows[at:]):
                text = "".join(f"{row}\n" for row in changed)
                self.assertEqual(self.answer(parse_script, text), [WRITTEN[row] for row in changed])
                self.assertEqual(format_script(parse_script(text)), text)


class Arguments(Case):
    def test_by_name(self):
        self.assertEqual(self.answer(format_step, step=("raise", ["b"])), "raise b")
        self.assertEqual(self.answer(parse_step, text="raise b"), ("raise", ["b"]))
        self.assertEqual(self.answer(format_script, steps=[("raise", ["b"])]), "raise b\n")
        self.assertEqual(self.answer(parse_script, text="raise b\n"), [("raise", ["b"])])
        for function, name in ((format_step, "step"), (parse_step, "text"), (format_script, "steps"), (parse_script, "text")):
            self.assertEqual(inspect.getfullargspec(function).args, [name])

    def test_returned_steps_are_independent(self):
        found = parse_script("raise a b\nraise a b\n")
        found[0][1].append("c")
        self.assertEqual(found[1], ("raise", ["a", "b"]))


if __name__ == "__main__":
    unittest.main()
