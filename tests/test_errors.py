"""[errors] Each class, its base classes, `word` and its further attributes."""

import unittest

from raisekeys import errors

UNDER_DESK_ERROR = {
    "BadName": "name", "BadRectangle": "name", "BadSize": None, "BadOrder": None, "BadStep": "at",
    "TooLong": None, "BadWish": "at", "BadFact": "at", "BadCost": "name", "Impossible": None,
    "BadStamp": None, "Taken": "stamp", "Clash": "stamp", "OtherLog": None, "Full": "most",
    "BadDeed": "at", "BadWatch": None, "BadText": "at", "BadPage": "row",
}
UNDER_MISSING = {"Unknown": "name", "NoStamp": "stamp", "NoWatch": "number"}
SAMPLES = {"name": "ab", "at": 3, "stamp": (7, "ann"), "most": 200, "row": 0, "number": 16}


def made(word, attribute):
    """An error of this class, with the sample value of its attribute."""
    if attribute is None:
        return getattr(errors, word)()
    return getattr(errors, word)(SAMPLES[attribute])


class Errors(unittest.TestCase):
    def test_there_are_twenty_three_errors_and_two_base_classes(self):
        found = {name for name, value in vars(errors).items() if isinstance(value, type)}
        expected = {"DeskError", "Missing", "NothingLeft", *UNDER_DESK_ERROR, *UNDER_MISSING}
        self.assertEqual(found, expected)
        self.assertEqual(len(expected), 25)

    def test_base_classes_and_no_others(self):
        self.assertEqual(errors.DeskError.__bases__, (ValueError,))
        self.assertEqual(errors.Missing.__bases__, (LookupError,))
        self.assertEqual(errors.NothingLeft.__bases__, (IndexError,))
        for word in UNDER_DESK_ERROR:
            self.assertEqual(getattr(errors, word).__bases__, (errors.DeskError,), word)
        for word in UNDER_MISSING:
            self.assertEqual(getattr(errors, word).__bases__, (errors.Missing,), word)

    def test_no_class_is_under_another_one_except_under_its_base(self):
        words = [*UNDER_DESK_ERROR, *UNDER_MISSING, "NothingLeft"]
        for word in words:
            for other in words:
                is_under = issubclass(getattr(errors, word), getattr(errors, other))
                self.assertEqual(is_under, word == other, (word, other))
        for base in (errors.DeskError, errors.Missing):
            self.assertFalse(issubclass(errors.NothingLeft, base))
        for word in UNDER_DESK_ERROR:
            self.assertFalse(issubclass(getattr(errors, word), LookupError), word)
        for word in UNDER_MISSING:
            self.assertFalse(issubclass(getattr(errors, word), ValueError), word)

    def test_word_is_the_name_of_the_class(self):
        for word, attribute in {**UNDER_DESK_ERROR, **UNDER_MISSING, "NothingLeft": None}.items():
            self.assertEqual(made(word, attribute).word, word)
        self.assertEqual(errors.DeskError().word, "DeskError")
        self.assertEqual(errors.Missing().word, "Missing")

    def test_attributes_are_set_and_there_are_no_further_ones(self):
        for word, attribute in {**UNDER_DESK_ERROR, **UNDER_MISSING, "NothingLeft": None}.items():
            expected = {"word": word}
            if attribute is not None:
                expected[attribute] = SAMPLES[attribute]
            self.assertEqual(vars(made(word, attribute)), expected)

    def test_every_error_has_a_message(self):
        for word, attribute in {**UNDER_DESK_ERROR, **UNDER_MISSING, "NothingLeft": None}.items():
            self.assertNotEqual(str(made(word, attribute)), "", word)


if __name__ == "__main__":
    unittest.main()
