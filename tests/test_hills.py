"""Points 5.4 and 5.5: hills; 0.2 to 0.6 over them."""

import unittest

from samples import LONGEST, down, great_rooms, least_costs, line, marked_rooms, some_marks
from spinfloor.errors import FloorError, OddMarks, Parted, TooRough
from spinfloor.hills import hills
from spinfloor.pairing import paired


def marks_in(marks):
    return bin(marks).count("1")


class Sentences(unittest.TestCase):
    """Each sentence of 5.5."""

    def holds(self, many, links, marks, least):
        found = hills(many, links, marks)
        for rooms, price in found:
            self.assertGreaterEqual(price, 1)
            self.assertEqual(rooms >> many, 0)
            self.assertEqual(marks_in(rooms & marks) % 2, 1)
        masks = [rooms for rooms, price in found]
        self.assertEqual(len(masks), len(set(masks)))
        for one in masks:
            for two in masks:
                self.assertIn(one & two, (0, one, two))
        for one, two, length in links:
            over = [price for rooms, price in found if down(rooms, one) != down(rooms, two)]
            self.assertLessEqual(sum(over), 2 * length)
        self.assertEqual(sum(price for rooms, price in found), 2 * least)
        if marks == 0:
            self.assertEqual(found, [])
        return found

    def test_small(self):
        for many, links, marks in marked_rooms(300):
            least = least_costs(many, links)
            for told in range(2 ** many):
                if marks_in(told) % 2 == 0:
                    self.holds(many, links, told, least[told])

    def test_great(self):
        most = 0
        for many, links, marks in great_rooms():
            most = max(most, len(self.holds(many, links, marks, paired(many, links, marks)[0])))
        self.assertGreater(most, 14)

    def test_no_mark(self):
        for many, links, marks in [*marked_rooms(), *great_rooms()]:
            self.assertEqual(hills(many, links, 0), [])

    def test_one_room(self):
        self.assertEqual(hills(1, [], 0), [])
        self.assertEqual(hills(1, [(0, 0, 0), (0, 0, LONGEST)], 0), [])

    def test_one_link(self):
        # Twice the length must be paid over this link, by sets that hold one of the two marks.
        for length in [1, 2, LONGEST]:
            found = self.holds(2, [(0, 1, length)], 3, length)
            self.assertLessEqual(len(found), 2)

    def test_links_of_length_nought(self):
        self.assertEqual(hills(2, [(0, 1, 0)], 3), [])
        self.assertEqual(hills(80, line(80, 0), some_marks(2, 80, 14)), [])

    def test_fourteen_marks_in_a_line(self):
        for length in [1, 3, LONGEST]:
            marks = sum(2 ** room for room in range(0, 80, 6))
            self.assertEqual(marks_in(marks), 14)
            self.holds(80, line(80, length), marks, 7 * 6 * length)

    def test_three_rooms_each_linked_to_each(self):
        # Three rooms of a ring, each with a marked room by a long link; prices of one are needed here.
        links = [(0, 1, 1), (1, 2, 1), (2, 0, 1), (0, 3, 1), (1, 4, 1), (2, 5, 1)]
        for marks, least in [(0b111001, 4), (0b110000, 3), (0b011011, 2), (0b000011, 1), (0b111111, 3)]:
            self.holds(6, links, marks, least)


class Refused(unittest.TestCase):
    def refuses(self, refusal, many, links, marks):
        with self.assertRaises(FloorError) as caught:
            hills(many, links, marks)
        self.assertIs(type(caught.exception), refusal)

    def test_each_alone_and_ahead_of_later_ones(self):
        self.refuses(OddMarks, 1, [], 1)
        self.refuses(OddMarks, 2, [], 2)
        self.refuses(OddMarks, 16, line(16), 2 ** 15 - 1)
        self.refuses(OddMarks, 17, line(16), 2 ** 15 - 1)
        self.refuses(Parted, 2, [], 0)
        self.refuses(Parted, 2, [], 3)
        self.refuses(Parted, 17, line(16), 2 ** 16 - 1)
        self.refuses(TooRough, 16, line(16), 2 ** 16 - 1)
        self.refuses(TooRough, 80, line(80), some_marks(3, 80, 16))


class Staying(unittest.TestCase):
    def test_nothing_is_changed_and_the_same_is_told_each_time(self):
        for many, links, marks in marked_rooms(60):
            ahead = list(links)
            found = hills(many, links, marks)
            told = list(found)
            found.append((1, 1))
            self.assertEqual(hills(many, links, marks), told)
            self.assertEqual(links, ahead)

    def test_kinds(self):
        for many, links, marks in marked_rooms(60):
            found = hills(many, links, marks)
            self.assertIs(type(found), list)
            for pair in found:
                self.assertEqual((type(pair), [type(part) for part in pair]), (tuple, [int, int]))


if __name__ == "__main__":
    unittest.main()
