"""Points 11.2, 11.3 and 11.4: answers as texts, and what they settle; 0.2 to 0.6 over them."""

import itertools
import re
import unittest

from samples import GREATEST, Dice, all_fields, bound_webs, broken, cost_of, grid, is_number, is_pair, refusal
from samples import tried_webs, triangle, with_odd
from spinfloor.answers import answer, settles, shown, taken
from spinfloor.errors import BadText, BadTie, BadTurns, FloorError, NotFlat, Parted, TooRough
from spinfloor.least import certain, least
from spinfloor.texts import read, written
from spinfloor.webs import Web

TEXT = "worth 3\ndown 1 2\nhill 6 1\n"
NUMBER = r"(?:0|[1-9][0-9]{0,39})"
ROWS = [rf"worth ({NUMBER})", rf"down((?: {NUMBER})*)", rf"hill ({NUMBER})((?: {NUMBER})+)"]


def mask(words):
    return sum(2 ** number for number in words)


def ascending(numbers):
    return numbers == sorted(set(numbers)) and all(number <= 79 for number in numbers)


def row_told(row, kind):
    """What a row of a kind tells, or None; a second reader."""
    found = re.fullmatch(ROWS[kind], row)
    if not found:
        return None
    if kind == 0:
        return int(found[1])
    numbers = [int(word) for word in found[kind].split()]
    if not ascending(numbers) or kind == 2 and int(found[1]) == 0:
        return None
    return mask(numbers) if kind == 1 else (mask(numbers), int(found[1]))


def second_reader(text):
    """The triple, or the number of the first wrong row."""
    ended = text.endswith("\n") or text == ""
    rows = text.split("\n")
    if ended:
        rows.pop()
    told = []
    for number, row in enumerate(rows):
        value = row_told(row, min(number, 2))
        if value is None or number == len(rows) - 1 and not ended:
            return number + 1
        told.append(value)
    return (told[0], told[1], told[2:]) if len(told) > 1 else len(rows) + 1


def at_of(text):
    try:
        taken(text)
    except FloorError as refused:
        return (type(refused), refused.at)
    return None


class Shown(unittest.TestCase):
    def test_known(self):
        self.assertEqual(shown((3, 6, [(2, 6)])), TEXT)
        self.assertEqual(shown((0, 0, [])), "worth 0\ndown\n")
        self.assertEqual(shown((5, 1, [(3, 7), (2 ** 79, 10 ** 40 - 1), (1, 1)])), "".join([
            "worth 5\n", "down 0\n", "hill 7 0 1\n", "hill " + "9" * 40 + " 79\n", "hill 1 0\n",
        ]))
        self.assertEqual(shown(least(triangle())), TEXT)

    def test_back_and_forth(self):
        for web in [*tried_webs(60), *bound_webs(12), *bound_webs(0)]:
            found = least(web)
            self.assertEqual(taken(shown(found)), found)
            self.assertIs(settles(web, shown(found)), True)

    def test_nothing_is_changed(self):
        found = (3, 6, [(2, 6), (5, 1)])
        self.assertEqual(shown(found), shown(found))
        self.assertEqual(found, (3, 6, [(2, 6), (5, 1)]))
        self.assertIs(type(shown(found)), str)


class Taken(unittest.TestCase):
    def test_known(self):
        self.assertEqual(taken(TEXT), (3, 6, [(2, 6)]))
        self.assertEqual(taken("worth 0\ndown\n"), (0, 0, []))
        self.assertEqual(taken("worth 9\ndown 0\nhill 1 0\nhill 1 0\nhill 2 3 5\n"), (9, 1, [(1, 1), (1, 1), (40, 2)]))

    def test_the_bounds_of_numbers(self):
        forty, more = "9" * 40, "1" + "0" * 40
        self.assertEqual(taken(f"worth {forty}\ndown\nhill {forty} 0\n"), (10 ** 40 - 1, 0, [(1, 10 ** 40 - 1)]))
        self.assertEqual(at_of(f"worth {more}\ndown\n"), (BadText, 1))
        self.assertEqual(at_of(f"worth 1\ndown {more}\n"), (BadText, 2))
        self.assertEqual(at_of(f"worth 1\ndown {forty}\n"), (BadText, 2))
        self.assertEqual(at_of(f"worth 1\ndown\nhill {more} 0\n"), (BadText, 3))
        self.assertEqual(at_of(f"worth 1\ndown\nhill 1 {more}\n"), (BadText, 3))
        self.assertEqual(at_of(f"worth 1\ndown\nhill 1 {forty}\n"), (BadText, 3))
        self.assertEqual(at_of("worth " + "9" * 59000 + "\ndown\n"), (BadText, 1))

    def test_the_bounds_of_places_and_rounds(self):
        self.assertEqual(taken("worth 1\ndown 0 79\nhill 1 79\n"), (1, 2 ** 79 + 1, [(2 ** 79, 1)]))
        self.assertEqual(at_of("worth 1\ndown 0 80\n"), (BadText, 2))
        self.assertEqual(at_of("worth 1\ndown 0\nhill 1 80\n"), (BadText, 3))
        every = " ".join(str(number) for number in range(80))
        self.assertEqual(taken(f"worth 1\ndown {every}\nhill 5 {every}\n"), (1, 2 ** 80 - 1, [(2 ** 80 - 1, 5)]))

    def test_each_wrong_row(self):
        for row in (
            "", "worth", "worth ", "worth  3", " worth 3", "worth 3 ", "worth 3 4", "worth -3", "worth +3", "worth 03",
            "worth 3.", "Worth 3", "worthy 3", "down", "3", "worth x", "hill 6 1", "worth 1_0", "worth\t3",
        ):
            self.assertEqual(at_of(f"{row}\ndown 1 2\nhill 6 1\n"), (BadText, 1), row)
        for row in (
            "", "down ", "down  1", " down", "down 1 ", "down 1  2", "down 2 1", "down 1 1", "down 01", "down 00",
            "down -1", "down 1,2", "downs 1", "Down 1", "worth 3", "hill 6 1", "down 79 80", "down x", "1 2",
        ):
            self.assertEqual(at_of(f"worth 3\n{row}\nhill 6 1\n"), (BadText, 2), row)
        for row in (
            "", "hill", "hill ", "hill 6", "hill 6 ", "hill 0 1", "hill 00 1", "hill 06 1", "hill 6 01", "hill 6 1 1",
            "hill 6 2 1", "hill 6  1", " hill 6 1", "hill 6 1 ", "hill -6 1", "hill 6 -1", "hills 6 1", "Hill 6 1",
            "down 1", "worth 3", "hill 6 80", "hill x 1", "6 1",
        ):
            self.assertEqual(at_of(f"worth 3\ndown 1 2\n{row}\n"), (BadText, 3), row)
            self.assertEqual(at_of(f"worth 3\ndown 1 2\nhill 6 1\n{row}\nhill 6\n"), (BadText, 4), row)

    def test_texts_that_end_too_soon(self):
        self.assertEqual(at_of(""), (BadText, 1))
        self.assertEqual(at_of("worth 3"), (BadText, 1))
        self.assertEqual(at_of("worth 3\n"), (BadText, 2))
        self.assertEqual(at_of("worth 3\ndown"), (BadText, 2))
        self.assertEqual(at_of("worth 3\ndown 1 2"), (BadText, 2))
        self.assertEqual(at_of("worth 3\ndown 1 2\nhill 6 1"), (BadText, 3))
        self.assertEqual(at_of("worth 3\ndown 1 2\nhill 6 1\nh"), (BadText, 4))
        self.assertEqual(at_of("worth 3\ndown 1 2\nhill 6 1\n "), (BadText, 4))
        self.assertEqual(at_of("\n"), (BadText, 1))
        self.assertEqual(at_of(TEXT + "\n"), (BadText, 4))

    def test_the_first_wrong_row_is_told(self):
        self.assertEqual(at_of("worth\ndown x\nhill"), (BadText, 1))
        self.assertEqual(at_of("worth 3\ndown x\nhill"), (BadText, 2))
        self.assertEqual(at_of("worth 3\ndown\nhill\nhill 6 1"), (BadText, 3))

    def test_against_a_second_reader(self):
        dice, seen = Dice(11), set()
        signs = "0123456789 \nworthdwnil-~!"
        texts = [TEXT, "worth 0\ndown\n", "worth 12\ndown 0 3 10\nhill 20 1 2\nhill 4 0\n", "worth 7\ndown 5\n"]
        for times in range(6000):
            text = dice.one_of(texts)
            for more in range(1 + dice.under(2)):
                spot = dice.under(len(text) + 1)
                text = text[:spot] + dice.one_of(["", dice.one_of(signs)]) + text[spot + dice.under(2):]
            told = second_reader(text)
            if type(told) is int:
                self.assertEqual(at_of(text), (BadText, told), text)
                seen.add(told)
            else:
                self.assertEqual(taken(text), told, text)
                seen.add("read")
        self.assertLessEqual({1, 2, 3, 4, 5, "read"}, seen)

    def test_kinds(self):
        for text in (TEXT, "worth 0\ndown\n", "worth 0\ndown\nhill 3 4 5\n"):
            told = taken(text)
            self.assertTrue(type(told) is tuple and len(told) == 3 and type(told[2]) is list)
            self.assertTrue(is_number(told[0]) and is_number(told[1]) and all(is_pair(pair) for pair in told[2]))
            answered = (told[0], told[1], list(told[2]))
            told[2].append(None)
            self.assertEqual(taken(text), answered)


class Settles(unittest.TestCase):
    def test_each_sentence_broken_alone(self):
        web = triangle()
        self.assertIs(settles(web, TEXT), True)
        # It isn't read.
        for text in ("", TEXT[:-1], TEXT + "\n", "worth 03\ndown 1 2\nhill 6 1\n", "worth 3\ndown 2 1\nhill 6 1\n"):
            self.assertIs(settles(web, text), False, text)
        # It names a place that the web lacks, by which the worth and the paper are as they were.
        for place in (3, 4, 79):
            self.assertIs(certain(web, 6 + 2 ** place, [(2, 6)]), True)
            self.assertIs(settles(web, f"worth 3\ndown 1 2 {place}\nhill 6 1\n"), False)
        # Another worth is told.
        for worth in (0, 2, 4, 6, 10 ** 39):
            self.assertIs(settles(web, f"worth {worth}\ndown 1 2\nhill 6 1\n"), False)
        # The paper doesn't show it.
        for paper in ("", "hill 5 1\n", "hill 7 1\n", "hill 6 0 1\n", "hill 6 2\n", "hill 6 1\nhill 1 1\n", "hill 6 79\n"):
            self.assertIs(settles(web, "worth 3\ndown 1 2\n" + paper), False, paper)
        # A laying that isn't least, with its own worth.
        self.assertIs(settles(web, "worth 4\ndown 2\nhill 8 1\n"), False)
        self.assertIs(settles(web, "worth 4\ndown 2\nhill 6 1\n"), False)

    def test_whoever_wrote_it(self):
        web = triangle()
        # Place 0 down, the other round, and the price in two parts.
        for text in ("worth 3\ndown 0\nhill 6 1\n", "worth 3\ndown 1 2\nhill 6 0\n", "worth 3\ndown 0\nhill 2 0\nhill 4 1\n"):
            self.assertIs(settles(web, text), True)

    def test_small_texts_gone_through(self):
        web = triangle(1, 2, 2)
        settled = 0
        for worth, laying in itertools.product(range(4), range(16)):
            for paper in itertools.product(range(1, 5), repeat=2):
                pairs = [(rounds, price) for rounds, price in ((1, paper[0] - 1), (2, paper[1] - 1)) if price]
                text = shown((worth, laying, pairs))
                fits = laying < 8 and cost_of(web, laying) == worth and broken(web, laying, pairs) == ""
                self.assertIs(settles(web, text), fits)
                settled += fits
        self.assertGreater(settled, 0)

    def test_more_than_twelve_odd_rounds_are_let(self):
        rough = with_odd(Web(40, *grid(5, 8)), 1, 20, [0])
        self.assertIs(settles(rough, "worth 0\ndown 3 39\n"), True)
        self.assertIs(settles(rough, "worth 0\ndown 3 40\n"), False)

    def test_nothing_is_changed(self):
        web = triangle()
        before = all_fields(web)
        for times in range(2):
            self.assertIs(settles(web, TEXT), True)
        self.assertEqual(all_fields(web), before)


class Answer(unittest.TestCase):
    def test_known(self):
        self.assertEqual(answer(written(triangle())), TEXT)
        self.assertEqual(answer("places 2\npush 0 1 4\nabout 0 0\nabout 1 0\n"), "worth 0\ndown 1\n")

    def test_it_settles_the_web(self):
        for web in [*tried_webs(40), *bound_webs(12), *bound_webs(12, [GREATEST])]:
            text = answer(written(web))
            self.assertIs(settles(web, text), True)
            self.assertEqual(text, shown(least(web)))
            self.assertEqual(answer(written(web)), text)
            self.assertIs(type(text), str)

    def test_refusals(self):
        self.assertEqual(refusal(answer, ""), BadText)
        for text, at in (("", 1), ("places 2\n", 2), ("places 2\npull 0 1 1\nabout 0 0\nabout 1 0", 4)):
            with self.assertRaises(BadText) as caught:
                answer(text)
            self.assertEqual(caught.exception.at, at)
        self.assertIs(refusal(answer, "places 2\npull 0 0 1\nabout 0 0\nabout 1 0\n"), BadTie)
        self.assertIs(refusal(answer, "places 2\npull 0 2 1\nabout 0 0\nabout 1 0\n"), BadTie)
        self.assertIs(refusal(answer, "places 2\npull 0 1 1\nabout 0\nabout 1 0\n"), BadTurns)
        self.assertIs(refusal(answer, "places 3\npull 0 1 1\nabout 0 0\nabout 1 0\nabout 2\n"), Parted)
        three = "places 2\npull 0 1 1\npull 0 1 1\npull 0 1 1\nabout 0 0 1 2\nabout 1 0 1 2\n"
        self.assertIs(refusal(answer, three), NotFlat)
        for web in bound_webs(14):
            self.assertIs(refusal(answer, written(web)), TooRough)

    def test_refused_by_the_reading_first(self):
        rough = written(with_odd(Web(40, *grid(5, 8)), 1, 20))
        self.assertIs(refusal(answer, rough), TooRough)
        self.assertIs(refusal(answer, rough[:-1]), BadText)
        self.assertIs(type(read(rough)), Web)


if __name__ == "__main__":
    unittest.main()
