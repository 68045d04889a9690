"""Point 5.6: papers; 0.2 to 0.6 over them."""

import unittest

from samples import LONGEST, Dice, down, ends_odd, great_rooms, least_costs, length_of, line, marked_rooms
from spinfloor.examiner import examined
from spinfloor.hills import hills
from spinfloor.pairing import paired

# Rooms 0, 1, 2 in a line; 0 and 1 are marked, so link 0 is the cheapest joining and costs 2.
LINKS = [(0, 1, 2), (2, 1, 2)]
MARKS = 3
PAPER = [(2, 4)]
# Room 0 beside room 1 by two links, room 2 with a link to itself, room 3 alone.
PARTED = [(0, 1, 5), (1, 0, 4), (2, 2, 1)]


def shown(many, links, marks, used, paper):
    """5.6 said again, sentence by sentence."""
    if used >= 2 ** len(links) or ends_odd(many, links, used) != marks:
        return False
    for rooms, price in paper:
        if not 0 <= rooms < 2 ** many or bin(rooms & marks).count("1") % 2 == 0 or price < 1:
            return False
    for one, two, length in links:
        if sum(price for rooms, price in paper if down(rooms, one) != down(rooms, two)) > 2 * length:
            return False
    return sum(price for rooms, price in paper) == 2 * length_of(links, used)


class Known(unittest.TestCase):
    def shows(self, told, paper, used=1, many=3, links=LINKS, marks=MARKS):
        self.assertIs(examined(many, links, marks, used, paper), told)
        self.assertIs(shown(many, links, marks, used, paper), told)

    def test_papers_that_show_it(self):
        for paper in [PAPER, [(1, 4)], [(1, 3), (2, 1)], [(6, 4)], [(5, 4)], [(6, 2), (1, 1), (5, 1)], [(2, 2), (1, 2)]]:
            self.shows(True, paper)

    def test_no_joining_of_the_marks(self):
        # What it costs is the same, so that nothing else is amiss.
        self.shows(False, PAPER, used=2)
        self.shows(False, PAPER, marks=6)
        self.shows(True, [(2, 4)], used=2, marks=6)
        self.shows(False, [(1, 4)], marks=1)
        self.shows(False, [(2, 4)], marks=7)
        self.shows(False, [], used=0)

    def test_a_bit_for_no_link(self):
        for number in [2, 3, 79, 80, 200]:
            self.shows(False, PAPER, used=1 + 2 ** number)
            self.shows(False, [], used=2 ** number, marks=0)

    def test_marks_that_are_no_rooms(self):
        for marks in [MARKS + 8, MARKS + 2 ** 80, 2 ** 80 + 2, -1, -5, MARKS - 2 ** 80]:
            self.shows(False, PAPER, marks=marks)
            self.shows(False, [], used=0, marks=marks)

    def test_an_even_number_of_marks(self):
        for rooms in [0, 3, 4, 7]:
            self.shows(False, [(rooms, 4)])
            self.shows(False, [(2, 3), (rooms, 1)])

    def test_a_price_below_one(self):
        for price in [0, -1, -LONGEST]:
            self.shows(False, [(2, 4), (1, -price), (1, price)])
            self.shows(False, [(2, 4), (5, price), (5, -price)])
            self.shows(False, [(2, 4 - price), (2, price)])
        self.shows(False, [(2, 4), (2, 0)])

    def test_a_bit_for_no_room(self):
        for room in [3, 4, 79, 80, 500]:
            self.shows(False, [(2 + 2 ** room, 4)])
            self.shows(False, [(2, 3), (1 + 2 ** room, 1)])
        self.shows(True, [(2 + 2 ** 3, 4)], many=4)

    def test_below_nought(self):
        for rooms in [-1, -2, -3, -6, -8, -LONGEST, 2 - 2 ** 80]:
            self.shows(False, [(rooms, 4)])
            self.shows(False, [(2, 3), (rooms, 1)])

    def test_more_paid_over_a_link_than_twice_its_length(self):
        links = [(0, 1, 2), (2, 1, 1)]
        self.shows(False, [(2, 4)], links=links)
        self.shows(False, [(2, 3), (6, 1)], links=links)
        self.shows(True, [(2, 2), (6, 2)], links=links)
        self.shows(False, [(2, 4)], links=[(0, 1, 2), (2, 1, 0)])
        self.shows(False, [(6, 2), (2, 1), (5, 1)], links=[*LINKS, (2, 0, 0)])
        # Over a link from a room to itself nothing is ever paid.
        self.shows(True, [(2, 4)], links=[*LINKS, (1, 1, 0), (0, 0, 0)])

    def test_the_sum_is_not_twice_the_cost(self):
        for paper in [[], [(2, 3)], [(2, 1)], [(2, 2), (1, 1)]]:
            self.shows(False, paper)
        # A joining that isn't a cheapest one, and the papers that show the cheapest one.
        links = [*LINKS, (0, 1, 3)]
        for paper in [PAPER, [(2, 5)], [(2, 6)], [(1, 2), (2, 4)]]:
            self.shows(False, paper, used=4, links=links)

    def test_a_pair_that_stands_there_twice_counts_twice(self):
        self.shows(True, [(2, 2), (2, 2)])
        self.shows(True, [(2, 1)] * 4)
        self.shows(False, [(2, 4), (2, 4)])
        self.shows(False, [(2, 2), (2, 2)], links=[(0, 1, 2), (2, 1, 1)])

    def test_no_mark(self):
        self.shows(True, [], used=0, marks=0)
        self.shows(False, PAPER, used=0, marks=0)
        self.shows(True, [], used=0, many=1, links=[], marks=0)
        # Rings of length nought are joinings of no mark, too, others are not cheapest ones.
        links = [(0, 1, 0), (1, 0, 0), (0, 1, 1), (1, 1, 0)]
        for used, told in [(0, True), (3, True), (8, True), (11, True), (5, False), (1, False)]:
            self.shows(told, [], used=used, many=2, links=links, marks=0)

    def test_nothing_is_refused(self):
        for marks in [1, 7, 13]:
            self.shows(False, [(1, 8)], used=2, many=4, links=PARTED, marks=marks)
        self.shows(True, [(1, 8)], used=2, many=4, links=PARTED, marks=3)
        self.shows(True, [(13, 8)], used=2, many=4, links=PARTED, marks=3)
        self.shows(False, [(1, 8)], used=1, many=4, links=PARTED, marks=3)
        self.shows(False, [], used=0, many=4, links=PARTED, marks=12)

    def test_eighty_marks(self):
        pairs = [(2 * k, 2 * k + 1, LONGEST) for k in range(40)]
        marks, used = 2 ** 80 - 1, 2 ** 40 - 1
        paper = [(2 ** (2 * k), 2 * LONGEST) for k in range(40)]
        self.shows(True, paper, used=used, many=80, links=pairs, marks=marks)
        self.shows(False, paper[1:], used=used, many=80, links=pairs, marks=marks)
        self.shows(False, paper, used=used - 1, many=80, links=pairs, marks=marks)
        links = line(80, 1)
        used = sum(2 ** k for k in range(0, 79, 2))
        self.shows(True, [(2 ** k, 1) for k in range(80)], used=used, many=80, links=links, marks=marks)


class Hills(unittest.TestCase):
    def test_hills_show_a_cheapest_joining(self):
        for many, links, marks in [*marked_rooms(300), *great_rooms()]:
            paper, used = hills(many, links, marks), paired(many, links, marks)[1]
            self.assertIs(examined(many, links, marks, used, paper), True)
            self.assertIs(examined(many, links, marks, used, list(reversed(paper))), True)
            if paper:
                self.assertIs(examined(many, links, marks, used, paper[1:]), False)
                self.assertIs(examined(many, links, marks, used, paper + paper[:1]), False)

    def test_just_the_cheapest_joinings_are_shown(self):
        for many, links, marks in marked_rooms(90):
            paper, least = hills(many, links, marks), least_costs(many, links)[marks]
            for used in range(2 ** len(links)):
                cheapest = ends_odd(many, links, used) == marks and length_of(links, used) == least
                self.assertIs(examined(many, links, marks, used, paper), cheapest)


class Whoever(unittest.TestCase):
    def changed(self, dice, many, paper):
        paper = list(paper)
        for times in range(1 + dice.under(3)):
            spot = dice.under(len(paper) + 1)
            rooms, price = paper.pop(spot) if spot < len(paper) else (2 ** dice.under(many), 1)
            wrong = dice.one_of([rooms ^ 2 ** dice.under(many + 1), rooms, rooms, 2 ** many - 1 - rooms, rooms - 2 ** many])
            paper.insert(dice.under(len(paper) + 1), (wrong, price + dice.under(3) - 1))
        return paper

    def test_papers_that_others_wrote(self):
        dice, right = Dice(9), 0
        for many, links, marks in marked_rooms(300):
            paper, used = hills(many, links, marks), paired(many, links, marks)[1]
            for times in range(12):
                told = self.changed(dice, many, paper)
                self.assertIs(examined(many, links, marks, used, told), shown(many, links, marks, used, told))
                right += examined(many, links, marks, used, told)
        self.assertGreater(right, 100)


class Staying(unittest.TestCase):
    def test_nothing_is_changed_and_the_same_is_told_each_time(self):
        for many, links, marks in marked_rooms(40):
            paper, used = hills(many, links, marks), paired(many, links, marks)[1]
            ahead = (list(links), list(paper))
            self.assertEqual([examined(many, links, marks, used, paper) for turn in range(2)], [True, True])
            self.assertEqual((links, paper), ahead)


if __name__ == "__main__":
    unittest.main()
