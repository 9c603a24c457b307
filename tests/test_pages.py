"""[25] The pages of logs, and the first row that is wrong."""

import copy
import inspect
import random
import unittest

from helpers import LETTERS, Case, drawn_desk, drawn_log, drawn_order
from raisekeys.desks import Desk
from raisekeys.errors import BadPage
from raisekeys.logs import Log
from raisekeys.pages import page, read_page

WINDOWS = ["window b 1 0 3 2", "window a 0 0 2 2", "window cd -5 -6 7 8"]
ENTRIES = ["entry 7 ann lower a", "struck 7 bob raise b cd", "entry 10 ann place cd 0 0 1 1", "entry 11 a raise cd a b"]
WRONG_ROWS = ("", " ", "raise a", "window", "entry", "struck", "Window x 0 0 1 1", "Entry 50 ann raise a", "jump", "a")
WRONG_WINDOWS = ("window ", "window x", "window x 0 0 1", "window x 0 0 1 1 1", "window  x 0 0 1 1", "window x 0 0 1 1 ",
                 " window x 0 0 1 1", "window X 0 0 1 1", "window abcdefg 0 0 1 1", "window x1 0 0 1 1", "window x 0 0 0 1",
                 "window x 0 1 1 1", "window x 0 0 1 1000000001", "window x 01 0 2 1", "window x +0 0 1 1",
                 "window x -0 0 1 1", "window x 0 0 1 x", "window 0 0 1 1", "window x 0 0  1 1", "windows x 0 0 1 1")
WRONG_ENTRIES = ("entry 50", "entry 50 ann", "entry 50 ann ", "entry 50 raise a", "entry ann raise a", "entry 50 ann jump a",
                 "entry 50 Ann raise a", "entry 50 abcdefg raise a", "entry 50  ann raise a", "entry 50 ann  raise a",
                 "entry 50 ann raise a ", " entry 50 ann raise a", "entry 050 ann raise a", "entry +50 ann raise a",
                 "entry -1 ann raise a", "entry -0 ann raise a", "entry x ann raise a", "entry 50 ann raise",
                 "entry 1000000000000000001 ann raise a", f"entry {'9' * 31} ann raise a", "entry 50 ann raise x",
                 "entry 50 ann raise a a", "entry 50 ann lower a x", "entry 50 ann place x 0 0 1 1",
                 "entry 50 ann place a 0 0 0 1", "entry 50 ann place a 0 0 1", "entry 50 ann repeat 1", "entries 50 ann raise a",
                 "struck 50 ann raise x", "struck 50 Ann raise a", "strike 50 ann raise a", "entry struck 50 ann raise a",
                 "entry 50 ann a", "entry 50 ann raise A")
STALE_STAMPS = ("entry 7 ann lower a", "struck 7 bob raise b cd", "entry 11 a raise a", "entry 10 zzz raise a", "entry 0 a raise a",
                "struck 11 a lower b", "entry 10 ann place cd 0 0 1 1")


def text_of(rows):
    return "".join(f"{row}\n" for row in rows)


def sample_log():
    log = Log(Desk({"a": (0, 0, 2, 2), "b": (1, 0, 3, 2), "cd": (-5, -6, 7, 8)}), ["b", "a", "cd"])
    log.add((10, "ann"), ("place", "cd", (0, 0, 1, 1)))
    log.add((7, "bob"), ("raise", ("b", "cd")))
    log.add((11, "a"), ("raise", ["cd", "a", "b"]))
    log.add((7, "ann"), ("lower", ["a"]))
    log.strike((7, "bob"))
    return log


class Pages(Case):
    def test_the_rows_of_a_page(self):
        self.assertEqual(self.answer(page, sample_log()), text_of(WINDOWS + ENTRIES))

    def test_without_entries(self):
        log = Log(Desk({"a": (-10 ** 9, -10 ** 9, 10 ** 9, 10 ** 9)}), ["a"])
        self.assertEqual(self.answer(page, log), "window a -1000000000 -1000000000 1000000000 1000000000\n")

    def test_the_rectangles_are_those_of_the_desk_that_the_log_began_with(self):
        log = sample_log()
        log.add((12, "a"), ("place", "a", (9, 9, 10, 10)))
        self.assertEqual(page(log), text_of(WINDOWS + ENTRIES + ["entry 12 a place a 9 9 10 10"]))

    def test_reading_gives_an_equal_log(self):
        found = self.answer(read_page, text_of(WINDOWS + ENTRIES))
        self.assertIs(type(found), Log)
        self.assertEqual(found, sample_log())
        self.assertEqual(found.entries(), sample_log().entries())
        self.assertEqual(found.state(), sample_log().state())

    def test_reading_gives_an_independent_log(self):
        log = sample_log()
        found = read_page(page(log))
        found.strike((10, "ann"))
        found.add((50, "ann"), ("raise", ["a"]))
        self.assertEqual(log, sample_log())
        self.assertEqual(read_page(page(log)), sample_log())

    def test_drawn_logs(self):
        source = random.Random(25)
        for number in range(100):
            desk = drawn_desk(source, source.choice((1, 3, 8, 24)), source.choice((6, 10 ** 8)))
            log = drawn_log(source, desk, drawn_order(source, desk), source.choice((0, 1, 10, 30)))
            before = copy.deepcopy(log)
            text = self.answer(page, log)
            self.assertEqual(log, before)
            self.assertEqual(read_page(text), log)
            self.assertEqual(page(read_page(text)), text)

    def test_stamps_at_their_bounds(self):
        rows = [*WINDOWS, "entry 0 a raise a", "struck 0 b raise a", f"entry {10 ** 18} abcdef raise a"]
        self.assertEqual(page(read_page(text_of(rows))), text_of(rows))

    def test_users_and_windows_with_the_names_of_words(self):
        rows = ["window window 0 0 1 1", "window entry 0 0 1 1", "window raise 0 0 1 1", "entry 1 entry raise raise entry",
                "struck 1 struck lower window", "entry 1 window place place 0 0 1 1"]
        self.assertEqual(page(read_page(text_of(rows[:5]))), text_of(rows[:5]))
        self.refused(BadPage, {"row": 5}, read_page, text_of(rows))


class WrongPages(Case):
    def check(self, rows, row, rest=""):
        self.refused(BadPage, {"row": row}, read_page, text_of(rows) + rest)

    def test_rows_that_are_not_written_so_among_the_windows(self):
        for wrong in (*WRONG_ROWS, *WRONG_WINDOWS):
            for at in range(4):
                self.check([*WINDOWS[:at], wrong, *WINDOWS[at:], *ENTRIES, "jump"], at)

    def test_rows_that_are_not_written_so_among_the_entries(self):
        for wrong in (*WRONG_ROWS, *WRONG_WINDOWS, *WRONG_ENTRIES):
            for at in range(1, 5):
                self.check([*WINDOWS, *ENTRIES[:at], wrong, *ENTRIES[at:], "jump"], 3 + at)

    def test_a_window_that_is_repeated(self):
        for window in (*WINDOWS, "window a 50 50 51 51"):
            self.check([*WINDOWS, window, *ENTRIES], 3)
            self.check([*WINDOWS, window, "window x 0 0 1 1", "window y 0 0 1 1", *ENTRIES], 3)
        self.check([WINDOWS[0], WINDOWS[0], *WINDOWS[1:], *ENTRIES], 1)

    def test_stamps_that_are_repeated_or_do_not_come_after_the_one_before(self):
        for stale in STALE_STAMPS:
            self.check([*WINDOWS, *ENTRIES, stale, "jump"], 7)
        self.check([*WINDOWS, ENTRIES[1], ENTRIES[0]], 4)
        self.check([*WINDOWS, ENTRIES[0], ENTRIES[0]], 4)
        self.check([*WINDOWS, ENTRIES[0], ENTRIES[2], ENTRIES[1], ENTRIES[3]], 5)

    def test_numbers_are_not_compared_as_texts(self):
        rows = [*WINDOWS, "entry 9 ann raise a", "entry 10 ann raise a", "entry 100 ann raise a"]
        self.assertEqual(page(read_page(text_of(rows))), text_of(rows))
        self.check([*WINDOWS, "entry 10 ann raise a", "entry 9 ann raise a"], 4)

    def test_a_step_that_is_not_one_of_the_desk(self):
        for step in ("raise x", "lower a x", "place x 0 0 1 1", "raise a b cd x"):
            for word in ("entry", "struck"):
                self.check([*WINDOWS, f"{word} 1 ann {step}", *ENTRIES], 3)
                self.check([*WINDOWS, *ENTRIES, f"{word} 50 ann {step}"], 7)

    def test_a_window_row_behind_an_entry(self):
        for at in range(1, 5):
            self.check([*WINDOWS, *ENTRIES[:at], "window x 0 0 1 1", *ENTRIES[at:]], 3 + at)

    def test_24_windows_and_one_more(self):
        rows = [f"window {letter} 0 0 1 1" for letter in LETTERS]
        self.assertEqual(len(read_page(text_of(rows[:24])).desk()), 24)
        self.check(rows[:25], 24)
        self.check(rows, 24)
        self.check([*rows[:24], rows[0]], 24)
        self.check([*rows[:24], "window X 0 0 1 1"], 24)

    def test_200_entries_and_one_more(self):
        rows = WINDOWS + [f"{'struck' if at % 3 else 'entry'} {at} ann raise a" for at in range(202)]
        self.assertEqual(len(read_page(text_of(rows[:203]))), 200)
        self.check(rows[:204], 203)
        self.check(rows, 203)

    def test_no_row(self):
        self.check([], 0)
        for rest in ("w", "window a 0 0 1 1", "entry 1 ann raise a", " "):
            self.check([], 0, rest)

    def test_no_window(self):
        self.check([""], 0)
        self.check(ENTRIES, 0)
        self.check(["entry 1 ann raise a"], 0)
        self.check(["", *WINDOWS], 0)

    def test_no_line_feed_at_the_end(self):
        rows = WINDOWS + ENTRIES
        for count in range(len(rows)):
            for rest in (rows[count], rows[count][:-1], " ", "x", "window"):
                self.check(rows[:count], count, rest)
        self.check(rows, 7, " ")

    def test_a_wrong_row_before_a_missing_line_feed(self):
        self.check([*WINDOWS, "jump", *ENTRIES], 3, "entry")
        self.check(["jump"], 0, "x")
        self.check([*WINDOWS, *ENTRIES, ENTRIES[0]], 7, "x")

    def test_rows_removed_or_doubled_or_exchanged(self):
        """Each changed page is refused, or it is the page of the log that is read from it."""
        source = random.Random(250)
        found = {True: 0, False: 0}
        for number in range(1500):
            rows = WINDOWS + ENTRIES
            change, at, other = source.randrange(4), source.randrange(7), source.randrange(7)
            if change == 0:
                rows = rows[:at] + rows[at + 1:]
            elif change == 1:
                rows = rows[:at] + [rows[other]] + rows[at:]
            elif change == 2:
                rows[at], rows[other] = rows[other], rows[at]
            text = text_of(rows)
            if change == 3:
                at = source.randrange(len(text))
                text = text[:at] + source.choice((" ", "\n", "0", "a", "-", "")) + text[at + source.randint(0, 1):]
            try:
                log = read_page(text)
            except BadPage as error:
                self.assertTrue(0 <= error.row <= text.count("\n"))
                found[False] += 1
            else:
                self.assertEqual(page(log), text)
                found[True] += 1
        self.assertGreater(min(found.values()), 200, found)


class Arguments(Case):
    def test_by_name(self):
        self.assertEqual(self.answer(page, log=sample_log()), text_of(WINDOWS + ENTRIES))
        self.assertEqual(self.answer(read_page, text=text_of(WINDOWS + ENTRIES)), sample_log())
        self.assertEqual(inspect.getfullargspec(page).args, ["log"])
        self.assertEqual(inspect.getfullargspec(read_page).args, ["text"])


if __name__ == "__main__":
    unittest.main()
