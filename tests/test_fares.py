"""Points 4.2, 4.3 and 4.4: fares; 0.3 to 0.6 over them."""

import unittest

from samples import LENGTHS, LONGEST, great_rooms, hanging, line, marked_rooms, strewn
from spinfloor.fares import fares, row_to, whole

# Room 4 hangs with no other, and by link 6 with itself alone.
ROOMS = [(0, 1, 4), (2, 0, 1), (1, 2, 2), (3, 1, 5), (3, 2, 9), (1, 3, 6), (4, 4, 3)]
# The start and two more rooms in a ring of length nought, a fourth by two links of the same length.
NOUGHT = [(1, 0, 0), (2, 1, 0), (0, 2, 0), (2, 3, 0), (3, 1, 0)]


def strewn_rooms():
    for seed in range(200):
        many = 1 + seed % 9
        yield many, strewn(seed, many, seed // 4 % 16, LENGTHS if seed % 3 else [0, 0, 1])


def all_fares(many, links, start):
    """Fares told in another way: each row of links lets every fare sink until none does."""
    told = [0 if room == start else None for room in range(many)]
    for times in range(many):
        for one, two, length in links:
            for here, there in [(one, two), (two, one)]:
                if told[here] is not None and (told[there] is None or told[here] + length < told[there]):
                    told[there] = told[here] + length
    return told


class Known(unittest.TestCase):
    def test_fares(self):
        self.assertEqual(fares(5, ROOMS, 0), ([0, 3, 1, 8, None], [None, 2, 1, 3, None]))
        self.assertEqual(fares(5, ROOMS, 3), ([8, 5, 7, 0, None], [1, 3, 2, None, None]))
        self.assertEqual(fares(5, ROOMS, 4), ([None, None, None, None, 0], [None] * 5))

    def test_row_to(self):
        via = fares(5, ROOMS, 0)[1]
        self.assertEqual([row_to(ROOMS, via, room) for room in range(4)], [[], [1, 2], [1], [1, 2, 3]])
        via = fares(5, ROOMS, 3)[1]
        self.assertEqual([row_to(ROOMS, via, room) for room in range(4)], [[3, 2, 1], [3], [3, 2], []])

    def test_row_to_by_another_s_list(self):
        self.assertEqual(row_to(ROOMS, [None, 0, 2, 4, None], 3), [0, 2, 4])
        self.assertEqual(row_to(ROOMS, [1, 5, 2, None, None], 0), [5, 2, 1])
        self.assertEqual(row_to(NOUGHT, [None, 1, 2, 4], 3), [2, 1, 4])

    def test_whole(self):
        self.assertIs(whole(5, ROOMS), False)
        self.assertIs(whole(4, ROOMS[:6]), True)
        self.assertIs(whole(4, NOUGHT), True)
        self.assertIs(whole(4, [(2, 3, 1), (0, 1, 1)]), False)
        self.assertIs(whole(4, [(2, 3, 1), (0, 1, 1), (3, 1, 1)]), True)
        self.assertIs(whole(3, [(1, 2, 1), (2, 1, 1), (0, 0, 1)]), False)

    def test_links_are_gone_both_ways(self):
        self.assertEqual(fares(2, [(0, 1, 7)], 1), ([7, 0], [0, None]))
        self.assertEqual(fares(2, [(1, 0, 7)], 1), ([7, 0], [0, None]))


class Edges(unittest.TestCase):
    def test_one_room(self):
        for links in [[], [(0, 0, 0)], [(0, 0, 5), (0, 0, 0)], [(0, 0, LONGEST)] * 80]:
            self.assertEqual(fares(1, links, 0), ([0], [None]))
            self.assertEqual(row_to(links, [None], 0), [])
            self.assertIs(whole(1, links), True)

    def test_no_link(self):
        for many in [2, 80]:
            for start in [0, 1, many - 1]:
                told = [0 if room == start else None for room in range(many)]
                self.assertEqual(fares(many, [], start), (told, [None] * many))
            self.assertIs(whole(many, []), False)

    def test_links_of_length_nought(self):
        for start in range(4):
            told, via = fares(4, NOUGHT, start)
            self.assertEqual(told, [0] * 4)
            self.assertIsNone(via[start])

    def test_two_links_between_the_same_rooms(self):
        self.assertEqual(fares(2, [(0, 1, 3), (1, 0, 2), (0, 1, 4)], 0), ([0, 2], [None, 1]))
        self.assertEqual(fares(2, [(0, 1, 3)] * 80, 1)[0], [3, 0])

    def test_eighty_rooms_in_a_line(self):
        links = line(80, LONGEST)
        told, via = fares(80, links, 0)
        self.assertEqual(told, [room * LONGEST for room in range(80)])
        self.assertEqual(via, [None] + list(range(79)))
        self.assertEqual(row_to(links, via, 79), list(range(79)))
        self.assertIs(whole(80, links), True)
        for gone in [0, 40, 78]:
            self.assertIs(whole(80, links[:gone] + links[gone + 1:]), False)
        self.assertIs(whole(80, list(reversed(links))), True)

    def test_a_ring_of_eighty_links(self):
        links = line(80, 2) + [(79, 0, 1)]
        told = fares(80, links, 10)[0]
        self.assertEqual([told[room] for room in [10, 0, 79, 49, 50, 51]], [0, 20, 21, 78, 79, 77])

    def test_many_small_ones_are_less_than_a_long_one(self):
        links = line(80, LONGEST // 80) + [(0, 79, LONGEST)]
        self.assertEqual(row_to(links, fares(80, links, 79)[1], 0), list(reversed(range(79))))
        self.assertEqual(row_to(links, fares(80, links, 0)[1], 79), list(range(79)))


class AnyRooms(unittest.TestCase):
    def holds(self, many, links, start):
        told, via = fares(many, links, start)
        self.assertEqual(told, all_fares(many, links, start))
        self.assertEqual([room for room in range(many) if via[room] is None],
                         [room for room in range(many) if told[room] is None or room == start])
        for room in range(many):
            if told[room] is not None:
                row = row_to(links, via, room)
                self.assertEqual(row[-1:], [via[room]] if room != start else [])
                self.goes(links, row, start, room)
                self.assertEqual(sum(links[number][2] for number in row), told[room])

    def goes(self, links, row, start, room):
        here, seen = start, [start]
        for number in row:
            self.assertIn(here, links[number][:2])
            here = links[number][0] + links[number][1] - here
            seen.append(here)
        self.assertEqual(here, room)
        self.assertEqual(len(seen), len(set(seen)))

    def test_strewn(self):
        for many, links in strewn_rooms():
            for start in range(many):
                self.holds(many, links, start)

    def test_great(self):
        for many, links, marks in great_rooms():
            for start in {0, many // 2, many - 1}:
                self.holds(many, links, start)

    def test_whole_is_where_all_can_be_reached(self):
        seen = set()
        for many, links in strewn_rooms():
            told = whole(many, links)
            self.assertIs(told, None not in all_fares(many, links, 0))
            seen.add(told)
        self.assertEqual(seen, {True, False})
        for many, links, marks in [*marked_rooms(), *great_rooms()]:
            self.assertIs(whole(many, links), True)


class Staying(unittest.TestCase):
    def test_nothing_is_changed_and_the_same_is_told_each_time(self):
        links = hanging(1, 12, 20)
        ahead = list(links)
        told, via = fares(12, links, 3)
        again = (list(told), list(via))
        row = row_to(links, via, 7)
        self.assertEqual((told, via), again)
        self.assertEqual(row_to(links, via, 7), row)
        row.append(99)
        told.append(99)
        via.clear()
        self.assertEqual(fares(12, links, 3), again)
        self.assertIs(whole(12, links), whole(12, links))
        self.assertEqual(links, ahead)

    def test_kinds(self):
        for many, links in strewn_rooms():
            told = fares(many, links, 0)
            self.assertIs(type(told), tuple)
            self.assertEqual([type(part) for part in told], [list, list])
            self.assertLessEqual({type(value) for part in told for value in part}, {int, type(None)})
            self.assertEqual([len(part) for part in told], [many, many])
            row = row_to(links, told[1], 0)
            self.assertIs(type(row), list)


if __name__ == "__main__":
    unittest.main()
