"""Points 12.1 to 12.4: the desk and its deeds; 0.2 to 0.6 over them."""

import re
import unittest

from samples import GREATEST, Dice, all_costs, bound_webs, grid, is_number, is_pair, odd_ones, refusal, tried_webs
from samples import triangle, with_odd
from spinfloor.allleast import all_least
from spinfloor.answers import answer, settles
from spinfloor.desk import Desk
from spinfloor.errors import BadDeed, BadText, BadTie, BadTurns, FloorError, NotFlat, Parted, TooRough
from spinfloor.least import least
from spinfloor.roofs import roof
from spinfloor.tables import least_many
from spinfloor.texts import read, written
from spinfloor.webs import Web

TEXT = written(triangle())


def after(text, row):
    """What a deed makes of a web's text; told by its rows alone."""
    rows = text.splitlines()
    ties = [number for number, each in enumerate(rows) if each.startswith("pu")]
    word, *numbers = row.split(" ")
    if word == "flip":
        for number in ties:
            kind, one, two, strength = rows[number].split(" ")
            if numbers[0] in (one, two):
                rows[number] = " ".join(["push" if kind == "pull" else "pull", one, two, strength])
    else:
        one, two = rows[ties[int(numbers[0])]].split(" ")[1:3]
        rows[ties[int(numbers[0])]] = " ".join([word, one, two, numbers[1]])
    return "".join(each + "\n" for each in rows)


def some_deed(dice, web):
    if dice.under(3) == 0:
        return f"flip {dice.under(web.many)}"
    strength = dice.one_of([0, 1, 2, 7, GREATEST])
    return f"{dice.one_of(['pull', 'push'])} {dice.under(len(web.ties))} {strength}"


class Deeds(unittest.TestCase):
    def test_known(self):
        desk = Desk(TEXT)
        self.assertEqual((desk.text(), desk.left()), (TEXT, 0))
        desk.do("push 1 40")
        self.assertEqual(desk.text(), TEXT.replace("pull 1 2 4", "push 1 2 40"))
        desk.do("pull 1 0")
        self.assertEqual(desk.text(), TEXT.replace("pull 1 2 4", "pull 1 2 0"))
        desk.do("flip 2")
        self.assertEqual(desk.text(), TEXT.replace("pull 1 2 4", "push 1 2 0").replace("push 0 2 5", "pull 0 2 5"))
        self.assertEqual(desk.left(), 3)
        for row in ("back", "back", "back"):
            desk.do(row)
        self.assertEqual((desk.text(), desk.left()), (TEXT, 0))

    def test_a_strength_of_nought_keeps_its_kind(self):
        desk = Desk(TEXT)
        desk.do("push 0 0")
        self.assertIn("push 0 1 0\n", desk.text())
        desk.do("flip 0")
        self.assertIn("pull 0 1 0\n", desk.text())
        desk.do("flip 1")
        self.assertIn("push 0 1 0\n", desk.text())

    def test_by_the_rows_of_the_text(self):
        for seed, web in enumerate([*tried_webs(40), *bound_webs(12)]):
            dice, desk = Dice(seed), Desk(written(web))
            texts = [written(web)]
            for times in range(12):
                row = some_deed(dice, web)
                self.assertIsNone(desk.do(row))
                texts.append(after(texts[-1], row))
                self.assertEqual((desk.text(), desk.left()), (texts[-1], len(texts) - 1))
                if dice.under(4) == 0:
                    self.assertIsNone(desk.do("back"))
                    texts.pop()
                    self.assertEqual((desk.text(), desk.left()), (texts[-1], len(texts) - 1))
            # One after the other, down to the web that was read.
            while len(texts) > 1:
                desk.do("back")
                texts.pop()
                self.assertEqual((desk.text(), desk.left()), (texts[-1], len(texts) - 1))
            self.assertEqual(desk.text(), written(web))
            self.assertIs(refusal(desk.do, "back"), BadDeed)

    def test_a_deed_that_changes_nothing_is_taken_back_too(self):
        desk = Desk(TEXT)
        desk.do("pull 0 3")
        self.assertEqual((desk.text(), desk.left()), (TEXT, 1))
        desk.do("back")
        self.assertEqual((desk.text(), desk.left()), (TEXT, 0))

    def test_places_ends_and_turns_never_change(self):
        web = next(iter(bound_webs(12)))
        desk = Desk(written(web))
        for row in ("flip 0", "push 3 5", "flip 39", "pull 0 9", "back", "flip 7"):
            desk.do(row)
            now = read(desk.text())
            self.assertEqual((now.many, now.turns), (web.many, web.turns))
            self.assertEqual([(tie.one, tie.two) for tie in now.ties], [(tie.one, tie.two) for tie in web.ties])

    def test_desks_stand_alone(self):
        one, two = Desk(TEXT), Desk(TEXT)
        one.do("flip 0")
        self.assertEqual((two.text(), two.left()), (TEXT, 0))

    def test_many_deeds(self):
        desk = Desk(TEXT)
        for times in range(300):
            desk.do("flip 1")
        self.assertEqual((desk.left(), desk.text()), (300, TEXT))
        for times in range(300):
            desk.do("back")
        self.assertEqual(desk.left(), 0)


class Refused(unittest.TestCase):
    def test_each_alone(self):
        wrong = [
            "", " ", "pull", "push", "flip", "pull 0", "push 0", "pull 0 1 2", "push 0 1 2", "flip 0 1", "back 0",
            "back 1", "back ", " back", "Back", "backs", "undo", "pull  0 1", "pull 0  1", " pull 0 1", "pull 0 1 ",
            "pull 0 1\n", "back\n", "flip 0\n", "flip 0 ", "flip  0", " flip 0", "flip -1", "flip +1", "flip 01",
            "flip 00", "pull 00 1", "pull 0 01", "pull 0 -1", "pull -1 1", "pull 0 1.", "pull x 1", "pull 0 x",
            "PULL 0 1", "pulls 0 1", "flips 0", "tie 0 1", "places 3", "about 0 0 2", "pull 0\t1", "flip ~", "!",
            "flip 3", "flip 4", "flip 40", "pull 3 1", "push 3 1", "push 80 1", f"pull 0 {GREATEST + 1}",
            f"push 2 {GREATEST + 1}", "pull 0 " + "1" * 32, "pull 0 " + "9" * 31, "pull " + "9" * 31 + " 1",
            "flip " + "9" * 31, "flip " + "9" * 32, "flip " + "1" * 190, "x" * 200,
        ]
        desk = Desk(TEXT)
        for row in [*wrong, "back"]:
            with self.assertRaises(FloorError, msg=row) as caught:
                desk.do(row)
            self.assertIs(type(caught.exception), BadDeed)
            self.assertEqual((desk.text(), desk.left()), (TEXT, 0))
        desk.do("push 0 9")
        text = desk.text()
        for row in wrong:
            self.assertIs(refusal(desk.do, row), BadDeed, row)
            # The desk stays as it was, and what was done can be taken back.
            self.assertEqual((desk.text(), desk.left()), (text, 1))
        desk.do("back")
        self.assertEqual(desk.text(), TEXT)

    def test_the_bounds(self):
        desk = Desk(TEXT)
        for row in (f"pull 2 {GREATEST}", f"push 2 {GREATEST}", "flip 2", "pull 0 0", "push 0 0", "flip 0"):
            desk.do(row)
        self.assertEqual(desk.left(), 6)

    def test_any_row(self):
        dice, done = Dice(4), 0
        right = re.compile(r"(?:pull|push) ([0-2]) (0|[1-9][0-9]{0,29}|10{30})|flip ([0-2])|back")
        rows = ["pull 0 12", "push 2 7", "flip 1", "back", f"pull 1 {GREATEST}"]
        desk = Desk(TEXT)
        for times in range(3000):
            row = dice.one_of(rows)
            spot = dice.under(len(row) + 1)
            row = row[:spot] + dice.one_of(["", dice.one_of("0123 pulshfib~\n9")]) + row[spot + dice.under(2):]
            fits = right.fullmatch(row) is not None and (row != "back" or desk.left() > 0)
            self.assertIs(refusal(desk.do, row), None if fits else BadDeed, row)
            done += fits
        self.assertGreater(done, 300)

    def test_a_text_that_is_not_read(self):
        for text, at in (("", 1), (TEXT[:-1], 7), (TEXT + "\n", 8), ("places 1\n", 1)):
            with self.assertRaises(BadText) as caught:
                Desk(text)
            self.assertEqual(caught.exception.at, at)
        self.assertIs(refusal(Desk, TEXT.replace("pull 0 1 3", "pull 0 0 3")), BadTie)
        self.assertIs(refusal(Desk, TEXT.replace("about 0 0 2", "about 0 0")), BadTurns)
        self.assertIs(refusal(Desk, "places 3\npull 0 1 1\nabout 0 0\nabout 1 0\nabout 2\n"), Parted)
        three = "places 2\npull 0 1 1\npull 0 1 1\npull 0 1 1\nabout 0 0 1 2\nabout 1 0 1 2\n"
        self.assertIs(refusal(Desk, three), NotFlat)


class Flips(unittest.TestCase):
    def test_each_laying_keeps_its_worth(self):
        for web in tried_webs(40):
            desk = Desk(written(web))
            costs = all_costs(web)
            for place in range(web.many):
                desk.do(f"flip {place}")
                flipped = all_costs(read(desk.text()))
                for laying, cost in enumerate(costs):
                    self.assertEqual(flipped[laying ^ 2 ** place], cost)
                costs = flipped

    def test_the_least_worth_stays_and_how_many_have_it(self):
        for web in tried_webs(40):
            desk = Desk(written(web))
            worth, many, count = least(web)[0], least_many(web), len(all_least(web, 1000))
            for place in (0, web.many - 1, web.many // 2):
                desk.do(f"flip {place}")
                now = read(desk.text())
                self.assertEqual((least(now)[0], least_many(now)), (worth, many))
                self.assertEqual(len(all_least(now, 1000)), count)

    def test_at_the_bounds(self):
        web = with_odd(Web(40, *grid(5, 8)), 2, 12)
        desk = Desk(written(web))
        for place in (0, 17, 39, 17):
            desk.do(f"flip {place}")
            now = read(desk.text())
            self.assertEqual((least(now)[0], least_many(now)), (least(web)[0], least_many(web)))


class Tells(unittest.TestCase):
    def test_of_the_web_as_it_stands(self):
        for seed, web in enumerate([*tried_webs(30), *bound_webs(4)]):
            dice, desk = Dice(seed), Desk(written(web))
            for times in range(5):
                now = read(desk.text())
                try:
                    self.assertIs(settles(now, desk.answer()), True)
                    self.assertEqual(desk.answer(), answer(desk.text()))
                    number = dice.under(len(web.ties))
                    self.assertEqual(desk.roof(number), roof(now, number))
                    self.assertTrue(is_pair(desk.roof(number)))
                except TooRough:
                    self.assertIs(refusal(least, now), TooRough)
                desk.do(some_deed(dice, web))

    def test_asking_changes_nothing(self):
        desk = Desk(TEXT)
        desk.do("flip 1")
        text = desk.text()
        first = (desk.answer(), desk.roof(0), desk.roof(2), desk.left(), desk.text())
        self.assertEqual((desk.answer(), desk.roof(0), desk.roof(2), desk.left(), desk.text()), first)
        self.assertEqual(desk.text(), text)
        self.assertTrue(is_number(desk.left()))
        self.assertTrue(type(desk.text()) is str and type(desk.answer()) is str)

    def test_known(self):
        desk = Desk(TEXT)
        self.assertEqual(desk.answer(), "worth 3\ndown 1 2\nhill 6 1\n")
        self.assertEqual(desk.roof(0), (4, 0))
        desk.do("pull 1 1")
        self.assertEqual(desk.answer(), "worth 1\ndown 2\nhill 2 1\n")
        self.assertEqual(desk.roof(0), (1, 0))
        desk.do("back")
        self.assertEqual(desk.roof(0), (4, 0))

    def test_too_rough(self):
        web = with_odd(Web(40, *grid(5, 8)), 7, 12, [1])
        desk = Desk(written(web))
        self.assertIs(settles(web, desk.answer()), True)
        for number in range(len(web.ties)):
            tie = read(desk.text()).ties[number]
            desk.do(f"{'pull' if tie.wish() else 'push'} {number} 1")
            now = read(desk.text())
            rough = refusal(least, now)
            self.assertIs(refusal(desk.answer), rough)
            self.assertIs(refusal(desk.roof, 0), rough)
            desk.do("back")
        # Some of them made fourteen odd rounds.
        even = [i for i, sides in enumerate(web.sides) if not set(sides) & set(odd_ones(web)) and len(set(sides)) == 2]
        desk.do(f"{'pull' if web.ties[even[0]].wish() else 'push'} {even[0]} 1")
        self.assertIs(refusal(desk.answer), TooRough)
        self.assertIs(refusal(desk.roof, even[0]), TooRough)
        desk.do("back")
        self.assertIsNone(refusal(desk.answer))


if __name__ == "__main__":
    unittest.main()
