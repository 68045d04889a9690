"""Points 0.5 and 1.6: the refusals."""

import unittest

from spinfloor import errors
from spinfloor.errors import FloorError

WITH_TEXT = [
    "BadTie", "BadTurns", "Parted", "NotFlat", "OddMarks", "TooRough",
    "TooMany", "TooWide", "BadOrder", "BadStrip", "BadDeed",
]
WITH_NUMBER = ["BadText", "NoLaying"]


def named(names):
    return [getattr(errors, name) for name in names]


class Standing(unittest.TestCase):
    def test_floor_error_stands_straight_beneath_value_error(self):
        self.assertEqual(FloorError.__bases__, (ValueError,))

    def test_each_stands_straight_beneath_floor_error(self):
        for refusal in named(WITH_TEXT + WITH_NUMBER):
            self.assertEqual(refusal.__bases__, (FloorError,), refusal)

    def test_none_stands_beneath_another(self):
        refusals = named(WITH_TEXT + WITH_NUMBER)
        for one in refusals:
            for two in refusals:
                self.assertEqual(issubclass(one, two), one is two, (one, two))

    def test_there_are_no_others(self):
        classes = [value for value in vars(errors).values() if isinstance(value, type)]
        self.assertEqual(sorted(each.__name__ for each in classes), sorted(WITH_TEXT + WITH_NUMBER + ["FloorError"]))

    def test_each_bears_its_name(self):
        for name in WITH_TEXT + WITH_NUMBER + ["FloorError"]:
            self.assertEqual(getattr(errors, name).__name__, name)


class Making(unittest.TestCase):
    def test_with_a_text(self):
        for refusal in [FloorError] + named(WITH_TEXT):
            for words in ["some words", ""]:
                self.assertEqual(str(refusal(words)), words)

    def test_with_nothing(self):
        for refusal in [FloorError] + named(WITH_TEXT):
            self.assertEqual(str(refusal()), "")

    def test_with_a_whole_number(self):
        for refusal in named(WITH_NUMBER):
            for at in [0, 1, 7, 20000]:
                made = refusal(at)
                self.assertEqual(made.at, at)
                self.assertIs(type(made.at), int)

    def test_each_keeps_its_own_number(self):
        for refusal in named(WITH_NUMBER):
            one, two = refusal(3), refusal(5)
            self.assertEqual((one.at, two.at), (3, 5))


class Raising(unittest.TestCase):
    def test_with_a_text_or_nothing(self):
        for refusal in [FloorError] + named(WITH_TEXT):
            for made in [refusal("some words"), refusal()]:
                for base in [refusal, FloorError, ValueError]:
                    with self.assertRaises(base):
                        raise made

    def test_with_a_number(self):
        for refusal in named(WITH_NUMBER):
            for base in [refusal, FloorError, ValueError]:
                with self.assertRaises(base) as caught:
                    raise refusal(4)
                self.assertEqual(caught.exception.at, 4)


if __name__ == "__main__":
    unittest.main()
