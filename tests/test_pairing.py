"""Points 5.1, 5.2 and 5.3: joinings, what is refused, heights; 0.2 to 0.6 over them."""

import unittest

from samples import LONGEST, down, ends_odd, great_rooms, hanging, least_costs, length_of, line, marked_rooms
from samples import some_marks
from spinfloor.errors import FloorError, OddMarks, Parted, TooRough
from spinfloor.fares import fares
from spinfloor.pairing import heights, odd_ends, paired

SQUARE = [(0, 1, 3), (1, 2, 4), (2, 3, 5), (3, 0, 6), (0, 2, 20), (1, 1, 0)]
# Rooms 0 to 15 in a line, and one that hangs with none.
LINE = line(16)


def marks_in(marks):
    return bin(marks).count("1")


def all_pairs(rooms):
    """All ways to lay rooms in pairs."""
    if not rooms:
        yield []
    for mate in rooms[1:]:
        rest = [room for room in rooms[1:] if room != mate]
        for pairs in all_pairs(rest):
            yield [(rooms[0], mate), *pairs]


def refusal_of(ask, many, links, marks):
    try:
        ask(many, links, marks)
    except FloorError as refusal:
        return type(refusal)
    return None


class OddEnds(unittest.TestCase):
    def test_known(self):
        self.assertEqual(odd_ends(SQUARE, 0), 0)
        self.assertEqual([odd_ends(SQUARE, 2 ** number) for number in range(6)], [3, 6, 12, 9, 5, 0])
        self.assertEqual([odd_ends(SQUARE, used) for used in [3, 15, 32, 33, 63, 19]], [5, 0, 0, 3, 5, 0])

    def test_no_link(self):
        self.assertEqual(odd_ends([], 0), 0)

    def test_two_links_between_the_same_rooms(self):
        links = [(0, 79, 1), (79, 0, 2), (79, 79, 3)]
        self.assertEqual([odd_ends(links, used) for used in range(8)], [0, 2 ** 79 + 1, 2 ** 79 + 1, 0] * 2)

    def test_all_sets(self):
        for many, links, marks in marked_rooms(60):
            for used in range(2 ** len(links)):
                self.assertEqual(odd_ends(links, used), ends_odd(many, links, used))

    def test_great(self):
        for many, links, marks in great_rooms():
            for used in [0, 1, 2 ** len(links) - 1, 2 ** len(links) // 3, 2 ** (len(links) - 1)]:
                self.assertEqual(odd_ends(links, used), ends_odd(many, links, used))


class Refused(unittest.TestCase):
    def refuses(self, refusal, many, links, marks):
        for ask in [paired, heights]:
            self.assertIs(refusal_of(ask, many, links, marks), refusal)

    def test_an_odd_number_of_marks(self):
        self.refuses(OddMarks, 1, [], 1)
        for marks in [1, 2, 8, 7, 11, 14]:
            self.refuses(OddMarks, 4, SQUARE, marks)
        self.refuses(OddMarks, 16, LINE, 2 ** 13 - 1)

    def test_an_odd_number_ahead_of_all_others(self):
        self.refuses(OddMarks, 2, [], 1)
        self.refuses(OddMarks, 17, LINE, 7)
        self.refuses(OddMarks, 16, LINE, 2 ** 15 - 1)
        self.refuses(OddMarks, 17, LINE, 2 ** 17 - 1)

    def test_rooms_that_do_not_hang_together(self):
        self.refuses(Parted, 2, [], 3)
        self.refuses(Parted, 2, [(1, 1, 0), (0, 0, 0)], 3)
        self.refuses(Parted, 4, [(0, 1, 1), (2, 3, 1)], 15)
        self.refuses(Parted, 80, line(79), 3)

    def test_also_where_all_marks_can_be_joined_or_none_is_there(self):
        self.refuses(Parted, 2, [], 0)
        self.refuses(Parted, 17, LINE, 3)
        self.refuses(Parted, 3, [(1, 2, 1)], 6)

    def test_parted_ahead_of_too_many_marks(self):
        self.refuses(Parted, 17, LINE, 2 ** 16 - 1)
        self.refuses(Parted, 80, line(79), 2 ** 80 - 1)

    def test_more_than_fourteen_marks(self):
        self.refuses(TooRough, 16, LINE, 2 ** 16 - 1)
        self.refuses(TooRough, 80, line(80), 2 ** 80 - 1)
        self.refuses(TooRough, 80, line(80, 0), some_marks(1, 80, 16))

    def test_fourteen_marks_are_let(self):
        self.refuses(None, 16, LINE, 2 ** 14 - 1)
        self.refuses(None, 16, LINE, 2 ** 16 - 4)
        self.refuses(None, 80, line(80), some_marks(1, 80, 14))


class Paired(unittest.TestCase):
    def holds(self, many, links, marks, least):
        cost, used = paired(many, links, marks)
        self.assertEqual(cost, least)
        self.assertEqual(ends_odd(many, links, used), marks)
        self.assertEqual(length_of(links, used), least)
        self.assertEqual(used >> len(links), 0)

    def test_known(self):
        self.assertEqual(paired(4, SQUARE, 0), (0, 0))
        self.assertEqual(paired(4, SQUARE, 3), (3, 1))
        self.assertEqual(paired(4, SQUARE, 5), (7, 3))
        self.assertEqual(paired(4, SQUARE, 15), (8, 5))

    def test_no_mark(self):
        for many, links, marks in [*marked_rooms(), *great_rooms()]:
            self.holds(many, links, 0, 0)

    def test_one_room(self):
        self.assertEqual(paired(1, [], 0), (0, 0))
        self.holds(1, [(0, 0, 3), (0, 0, 0)], 0, 0)

    def test_two_links_between_the_same_rooms(self):
        self.assertEqual(paired(2, [(0, 1, 5), (1, 0, 3), (0, 1, 4), (1, 1, 0)], 3)[0], 3)

    def test_a_link_in_two_rows_falls_out(self):
        # All rooms of a star but its middle: each pair's row goes by the middle.
        links = [(6, room, 10 + room) for room in range(6)]
        self.holds(7, links, 2 ** 6 - 1, 75)
        # A line through two crossings, where the nearest pairs are not the cheapest ones taken together.
        links = [(0, 1, 2), (1, 2, 1), (2, 3, 2), (0, 3, 50)]
        self.holds(4, links, 15, 4)

    def test_against_all_sets_of_links(self):
        for many, links, marks in marked_rooms():
            least = least_costs(many, links)
            for told in range(2 ** many):
                if marks_in(told) % 2 == 0:
                    self.holds(many, links, told, least[told])

    def test_against_all_ways_to_lay_pairs(self):
        for seed in range(25):
            many, links = 30, hanging(seed, 30, 45)
            marks = some_marks(seed, many, 2 + seed % 4 * 2)
            rooms = [room for room in range(many) if down(marks, room)]
            told = {room: fares(many, links, room)[0] for room in rooms}
            self.holds(many, links, marks, min(sum(told[one][two] for one, two in pairs) for pairs in all_pairs(rooms)))

    def test_fourteen_marks_in_a_line(self):
        # In a line the marks can be joined in one way alone: the first with the second, the third with the fourth ..
        lengths = [LONGEST - 3 ** (room % 60) for room in range(79)]
        links = [(room, room + 1, lengths[room]) for room in range(79)]
        for seed in range(6):
            marks = some_marks(seed, 80, 14)
            used = sum(2 ** room for room in range(79) if marks_in(marks % 2 ** (room + 1)) % 2)
            self.assertEqual(paired(80, links, marks), (length_of(links, used), used))

    def test_fourteen_marks_in_a_ring(self):
        # In a ring there are two ways, each what the other one leaves.
        links = [(room, (room + 1) % 80, 1 + room * 37 % 80) for room in range(80)]
        for seed in range(8):
            marks = some_marks(seed, 80, 14)
            one = sum(2 ** room for room in range(80) if marks_in(marks % 2 ** (room + 1)) % 2)
            two = 2 ** 80 - 1 - one
            self.holds(80, links, marks, min(length_of(links, one), length_of(links, two)))

    def test_great(self):
        # The cost of the marks with two of them joined ahead is never less than the least cost.
        for many, links, marks in great_rooms():
            cost, used = paired(many, links, marks)
            self.holds(many, links, marks, cost)
            rooms = [room for room in range(many) if down(marks, room)]
            for mate in rooms[1:4]:
                rest = marks - 2 ** rooms[0] - 2 ** mate
                self.assertLessEqual(cost, paired(many, links, rest)[0] + fares(many, links, mate)[0][rooms[0]])


class Heights(unittest.TestCase):
    def root(self, many, marks):
        return min([room for room in range(many) if down(marks, room)], default=0)

    def turned(self, marks, one, two):
        return marks ^ 2 ** one ^ 2 ** two

    def test_known(self):
        self.assertEqual(heights(4, SQUARE, 3), [0, 3, -1, -6])
        self.assertEqual(heights(4, SQUARE, 6), [-3, 0, 4, -1])
        self.assertEqual(heights(4, SQUARE, 0), [0, -3, -7, -6])
        self.assertEqual(heights(4, SQUARE, 15), [0, 3, -1, 4])

    def test_one_room(self):
        self.assertEqual(heights(1, [], 0), [0])
        self.assertEqual(heights(1, [(0, 0, LONGEST)], 0), [0])

    def test_no_mark(self):
        for many, links, marks in [*marked_rooms(), *great_rooms()]:
            self.assertEqual(heights(many, links, 0), [-fare for fare in fares(many, links, 0)[0]])

    def test_against_all_sets_of_links(self):
        for many, links, marks in marked_rooms():
            least = least_costs(many, links)
            for told in range(2 ** many):
                if marks_in(told) % 2 == 0:
                    root = self.root(many, told)
                    self.assertEqual(heights(many, links, told), [
                        least[told] - least[self.turned(told, root, room)] for room in range(many)])

    def test_great(self):
        for step, (many, links, marks) in enumerate(great_rooms()):
            told = heights(many, links, marks)
            root = self.root(many, marks)
            self.assertEqual((len(told), told[root]), (many, 0))
            for one, two, length in links:
                self.assertLessEqual(abs(told[one] - told[two]), length)
            cost = paired(many, links, marks)[0]
            for room in {0, step % many, many // 2, many - 1}:
                self.assertEqual(told[room], cost - paired(many, links, self.turned(marks, root, room))[0])


class Staying(unittest.TestCase):
    def test_nothing_is_changed_and_the_same_is_told_each_time(self):
        for many, links, marks in marked_rooms(40):
            ahead = list(links)
            told = [(paired(many, links, marks), heights(many, links, marks), odd_ends(links, 1)) for turn in range(2)]
            self.assertEqual(told[0], told[1])
            told[0][1].append(99)
            self.assertEqual(heights(many, links, marks), told[1][1])
            self.assertEqual(links, ahead)

    def test_kinds(self):
        for many, links, marks in marked_rooms(40):
            cheapest = paired(many, links, marks)
            self.assertEqual((type(cheapest), len(cheapest)), (tuple, 2))
            told = heights(many, links, marks)
            self.assertIs(type(told), list)
            self.assertEqual({type(value) for value in [*cheapest, *told, odd_ends(links, 0)]}, {int})


if __name__ == "__main__":
    unittest.main()
