"""Points 2.5 and 2.6: webs as texts; 0.4 to 0.6 over them."""

import re
import unittest

from samples import GREATEST, Dice, all_fields, doubled_ring, great_webs, grid, small_webs
from spinfloor.errors import BadText, BadTie, BadTurns, FloorError, NotFlat, Parted
from spinfloor.texts import read, written
from spinfloor.ties import Pull, Push
from spinfloor.webs import Web

# Each web with its text written out.
KNOWN = [
    (Web(2, [Pull(0, 1, 0)], [[0], [0]]), "places 2\npull 0 1 0\nabout 0 0\nabout 1 0\n"),
    (
        Web(2, [Push(1, 0, GREATEST), Pull(0, 1, 7)], [[1, 0], [0, 1]]),
        "places 2\npush 1 0 1000000000000000000000000000000\npull 0 1 7\nabout 0 1 0\nabout 1 0 1\n",
    ),
    (
        Web(4, [Push(2, 3, 10), Pull(0, 1, 3), Push(1, 2, 0), Pull(0, 2, 12)], [[3, 1], [1, 2], [2, 3, 0], [0]]),
        "places 4\npush 2 3 10\npull 0 1 3\npush 1 2 0\npull 0 2 12\n"
        "about 0 3 1\nabout 1 1 2\nabout 2 2 3 0\nabout 3 0\n",
    ),
]
RIGHT = KNOWN[2][1]
LONG = "9" * 31


def changed(number, row):
    rows = RIGHT.splitlines()
    rows[number - 1] = row
    return "\n".join(rows) + "\n"


def refusal_of(text):
    try:
        read(text)
    except FloorError as refusal:
        return (type(refusal), getattr(refusal, "at", None))
    return None


class Known(unittest.TestCase):
    def test_written(self):
        for web, text in KNOWN:
            self.assertEqual(written(web), text)

    def test_read(self):
        for web, text in KNOWN:
            self.assertEqual(all_fields(read(text)), all_fields(web))

    def test_the_greatest(self):
        text = written(Web(40, *doubled_ring(40)))
        rows = text.splitlines()
        self.assertEqual(len(rows), 121)
        self.assertEqual((rows[0], rows[1], rows[80]), ("places 40", "pull 0 1 0", "push 39 0 79"))
        self.assertEqual((rows[81], rows[120]), ("about 0 0 1 79 78", "about 39 78 79 77 76"))
        self.assertLess(len(text), 20000)


class ThereAndBack(unittest.TestCase):
    def test_webs(self):
        for web in [*small_webs(count=120), *great_webs(), Web(12, *grid(3, 4))]:
            text = written(web)
            again = read(text)
            self.assertEqual(all_fields(again), all_fields(web))
            self.assertEqual(written(again), text)

    def test_nothing_is_changed_and_the_same_is_told_each_time(self):
        for web in small_webs():
            ahead = repr(all_fields(web))
            text = written(web)
            self.assertEqual(written(web), text)
            self.assertEqual(repr(all_fields(web)), ahead)
            one, two = read(text), read(text)
            self.assertEqual(all_fields(one), all_fields(two))
            one.turns[0].append(9)
            one.ties.pop()
            self.assertEqual(all_fields(read(text)), all_fields(two))

    def test_kinds(self):
        for web, text in KNOWN:
            self.assertIs(type(written(web)), str)
            told = read(text)
            self.assertIs(type(told), Web)
            numbers = [told.many] + [number for about in told.turns for number in about]
            for tie in told.ties:
                self.assertIn(type(tie), (Pull, Push))
                numbers += [tie.one, tie.two, tie.strength]
            self.assertEqual({type(number) for number in numbers}, {int})


class WrongRows(unittest.TestCase):
    def wrong(self, text, at):
        self.assertEqual(refusal_of(text), (BadText, at), text)
        self.assertIs(type(refusal_of(text)[1]), int)

    def test_the_right_one_is_right(self):
        self.assertIsNone(refusal_of(RIGHT))

    def test_the_first_row(self):
        for row in [
            "", " ", "places", "places ", "places 4 ", " places 4", "places  4", "places 4 4", "Places 4", "place 4",
            "places four", "places 04", "places +4", "places -4", "places 4.", "places 0", "places 1", "places 41",
            "places 4x", "places x4", "places " + LONG, "places 9" + LONG, "places 4_0", "about 0", "pull 0 1 3", "4",
        ]:
            self.wrong(changed(1, row), 1)

    def test_a_tie_s_row(self):
        for row in [
            "pull", "pull ", "push", "pull 0", "pull 0 1", "pull 0 1 ", "pull 0 1 3 ", "pull 0 1 3 4", "pull  0 1 3",
            "pull 0  1 3", "pull 0 1  3", " pull 0 1 3", "pull 00 1 3", "pull 0 01 3", "pull 0 1 03", "pull 0 1 00",
            "pull -0 1 3", "pull 0 +1 3", "pull 0 1 -3", "pull a 1 3", "pull 0 b 3", "pull 0 1 c", "pull 0 1 3.0",
            "pull 0 1 1_0", "pull 0 1 3;", "pull 0,1 3", "Pull 0 1 3", "PUSH 0 1 3", "pulls 0 1 3", "tie 0 1 3", "",
            "push 0 1 1000000000000000000000000000001", "push 0 1 " + LONG, "push 0 1 9" + LONG, "push 9" + LONG + " 1 3",
            "push 0 9" + LONG + " 3", "pull 0 1 0x3", "pull 0 1 3e1", "pull0 1 3", "pull 0 1 " + 5000 * "9",
        ]:
            for number in [2, 3, 5]:
                self.wrong(changed(number, row), number)

    def test_a_place_s_row(self):
        for place, number in [(0, 6), (1, 7), (2, 8), (3, 9)]:
            for row in [
                "", " ", "about", "about ", f"about {place} ", f"about  {place}", f" about {place}", f"about {place} 1 ",
                f"about {place}  1", f"about {place} 01", f"about 0{place}", f"about {place} x", f"about {place} -1",
                f"about {place} 1,2", f"about {place} 9{LONG}", f"About {place}", f"around {place} 1", f"{place} 1",
                f"about {place + 1} 1", f"about {place + 10}", f"about {place} +1", "places 4", f"about {LONG}", "about x",
                f"about {place} 1 2 3 {5000 * '9'}",
            ]:
                self.wrong(changed(number, row), number)

    def test_a_tie_s_row_among_the_places(self):
        for number in [7, 8, 9]:
            self.wrong(changed(number, "pull 0 1 3"), number)

    def test_the_places_out_of_their_order(self):
        self.wrong(changed(6, "about 1 1 2"), 6)
        self.wrong(changed(7, "about 0 3 1"), 7)
        self.wrong(changed(9, "about 2 2 3 0"), 9)

    def test_something_behind_the_last_place(self):
        for more in ["\n", " ", " \n", "about 4\n", "about 3 0\n", "about 4", "pull 0 1 3\n", "x", "\n\n", "places 4\n"]:
            self.wrong(RIGHT + more, 10)
        self.wrong(RIGHT + "\n" + RIGHT, 10)

    def test_a_row_too_much_in_the_middle(self):
        rows = RIGHT.splitlines(keepends=True)
        for number in range(1, 10):
            self.wrong("".join(rows[:number - 1] + ["\n"] + rows[number - 1:]), number)

    def test_the_first_wrong_row_is_told(self):
        rows = RIGHT.splitlines(keepends=True)
        for one in range(1, 10):
            for two in range(one, 10):
                broken = list(rows)
                broken[one - 1] = broken[two - 1] = "nothing right\n"
                self.wrong("".join(broken), one)
                self.wrong("".join(broken) + "more", one)
                self.wrong("".join(broken[:two]), one)

    def test_rows_that_lack(self):
        self.wrong("", 1)
        rows = RIGHT.splitlines(keepends=True)
        for kept in range(9):
            self.wrong("".join(rows[:kept]), kept + 1)

    def test_no_line_feed(self):
        for kept in range(len(RIGHT)):
            self.wrong(RIGHT[:kept], RIGHT[:kept].count("\n") + 1)

    def test_only_line_feeds(self):
        for text in ["\n", "\n\n\n", "\n" + RIGHT, "\n" * 20000]:
            self.wrong(text, 1)

    def test_a_row_left_out(self):
        rows = RIGHT.splitlines(keepends=True)
        self.wrong("".join(rows[1:]), 1)
        # A tie left out is seen at the turns alone.
        self.assertEqual(refusal_of("".join(rows[:1] + rows[2:]))[0], BadTurns)
        for number in [6, 7, 8]:
            self.wrong("".join(rows[:number - 1] + rows[number:]), number)


class ManyTies(unittest.TestCase):
    def text_of(self, ties):
        rows = [f"pull 0 1 {number}\n" for number in range(ties)]
        turns = " ".join(str(number) for number in range(ties))
        back = " ".join(str(number) for number in reversed(range(ties)))
        return "places 2\n" + "".join(rows) + f"about 0 {turns}\nabout 1 {back}\n"

    def test_eighty_are_let(self):
        web = read(self.text_of(80))
        self.assertEqual((len(web.ties), len(web.rounds)), (80, 80))

    def test_the_eighty_first_is_wrong(self):
        for ties in [81, 82, 100]:
            self.assertEqual(refusal_of(self.text_of(ties)), (BadText, 82))

    def test_whatever_the_eighty_first_is(self):
        for row in ["push 5 5 5\n", "pull\n", "push 0 1\n", "pull 0 1 3"]:
            head = self.text_of(80).partition("about")[0]
            self.assertEqual(refusal_of(head + row), (BadText, 82))

    def test_a_wrong_row_ahead_of_it(self):
        text = self.text_of(81).replace("pull 0 1 44\n", "pull 0 1 044\n")
        self.assertEqual(refusal_of(text), (BadText, 46))


class AllRowsRight(unittest.TestCase):
    def refuses(self, refusal, text):
        self.assertEqual(refusal_of(text), (refusal, None), text)

    def test_a_tie_from_a_place_to_itself(self):
        for place in ["0", "2", "39", "40", LONG]:
            self.refuses(BadTie, changed(3, f"pull {place} {place} 3"))
        # Ahead of what a web is refused with.
        self.refuses(BadTie, "places 2\npull 1 1 3\nabout 0 7\nabout 1\n")

    def test_an_end_that_is_no_place(self):
        for row in ["push 4 3 10", "push 2 4 10", "push 2 39 10", f"push {LONG} 3 10", f"pull 2 {LONG} 0"]:
            self.refuses(BadTie, changed(2, row))

    def test_turns(self):
        for row in ["about 2", "about 2 2", "about 2 2 3 0 0", "about 2 2 3 1", "about 2 2 3 4", f"about 2 2 3 {LONG}"]:
            self.refuses(BadTurns, changed(8, row))
        self.refuses(BadTurns, changed(7, "about 1 " + " ".join(["1"] * 3000)))

    def test_parted(self):
        self.refuses(Parted, "places 2\nabout 0\nabout 1\n")
        self.refuses(Parted, "places 3\npull 0 2 1\nabout 0 0\nabout 1\nabout 2 0\n")

    def test_on_no_plane(self):
        ties = "pull 0 1 1\npush 0 1 2\npull 1 0 3\n"
        self.refuses(NotFlat, "places 2\n" + ties + "about 0 0 1 2\nabout 1 0 1 2\n")
        self.assertIsNone(refusal_of("places 2\n" + ties + "about 0 0 1 2\nabout 1 1 0 2\n"))

    def test_a_wrong_row_goes_first(self):
        for row in ["pull 1 1 3", "push 4 3 10", "push 2 3 10"]:
            text = changed(2, row).replace("about 1 1 2", "about 1 1 1")
            self.assertEqual(refusal_of(text + "more"), (BadText, 10))
            self.assertEqual(refusal_of(text[:-1]), (BadText, 9))
            self.assertEqual(refusal_of(text.replace("about 3", "about  3")), (BadText, 9))


class Mistyped(unittest.TestCase):
    """Texts with signs put in, left out or changed, held against another way to look at rows."""

    NUMBER = r"(0|[1-9][0-9]{0,30})"

    def right_number(self, rows):
        places = re.fullmatch(r"places (0|[1-9][0-9]{0,30})\n", rows[0]) if rows else None
        if not places or not 2 <= int(places[1]) <= 40:
            return 0
        count = 1
        while count < len(rows) and re.match(r"(pull|push)[ \n]", rows[count]):
            tie = re.fullmatch(f"(pull|push) {self.NUMBER} {self.NUMBER} {self.NUMBER}\n", rows[count])
            if not tie or int(tie[4]) > GREATEST or count > 80:
                return count
            count += 1
        for place in range(int(places[1])):
            if count == len(rows) or not re.fullmatch(f"about {place}( {self.NUMBER})*\n", rows[count]):
                return count
            count += 1
        return count if count < len(rows) else None

    def holds(self, text):
        number = self.right_number(re.findall(r"[^\n]*\n|[^\n]+", text))
        told = refusal_of(text)
        if number is None:
            self.assertNotEqual(told and told[0], BadText, text)
        else:
            self.assertEqual(told, (BadText, number + 1), text)
        return number is None

    def test_one_or_two_signs(self):
        dice = Dice(77)
        right = 0
        for step in range(6000):
            text = dice.one_of(KNOWN)[1]
            for times in range(1 + step % 2):
                spot = dice.under(len(text) + 1)
                sign = dice.one_of(["", " ", "\n", "0", "1", "2", "9", "pull", "push 0 1 1\n", "about", "a", "~", "-"])
                text = text[:spot] + sign + text[spot + dice.under(2):]
            right += self.holds(text)
        self.assertGreater(right, 300)

    def test_rows_of_one_another(self):
        dice = Dice(78)
        rows = [row for web, text in KNOWN for row in text.splitlines(keepends=True)] + ["about 0\n", "\n", "x"]
        for step in range(3000):
            self.holds("".join(dice.one_of(rows) for times in range(dice.under(9))))


if __name__ == "__main__":
    unittest.main()
