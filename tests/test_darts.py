"""Points 2.1, 2.2 and 2.3: darts, rounds and sides."""

import copy
import unittest

from samples import all_turns, doubled_ring, fields, grid, ties_of
from spinfloor.darts import follower, head, rounds_of, sides_of, tail

TRIANGLE = ties_of([(0, 1), (1, 2), (0, 2)])
TRIANGLE_TURNS = [[0, 2], [0, 1], [1, 2]]
STAR = ties_of([(0, 1), (2, 0), (0, 3)])
STAR_TURNS = [[0, 1, 2], [0], [1], [2]]
FULL_FOUR = ties_of([(0, 1), (2, 0), (0, 3), (1, 2), (3, 1), (2, 3)])


class Ends(unittest.TestCase):
    def test_both_darts_of_a_tie(self):
        ties = ties_of([(0, 1), (2, 1), (0, 39)])
        self.assertEqual([tail(ties, dart) for dart in range(6)], [0, 1, 2, 1, 0, 39])
        self.assertEqual([head(ties, dart) for dart in range(6)], [1, 0, 1, 2, 39, 0])

    def test_the_last_of_eighty_ties(self):
        ties = ties_of([(k % 40, (k + 1 + k // 40) % 40) for k in range(80)])
        self.assertEqual((tail(ties, 158), head(ties, 158)), (39, 1))
        self.assertEqual((tail(ties, 159), head(ties, 159)), (1, 39))


class Following(unittest.TestCase):
    def test_triangle(self):
        told = [follower(TRIANGLE, TRIANGLE_TURNS, dart) for dart in range(6)]
        self.assertEqual(told, [2, 4, 5, 1, 3, 0])

    def test_behind_the_last_tie_comes_the_first(self):
        # Darts 1, 2 and 5 come to place 0, by ties 0, 1 and 2 of its list.
        self.assertEqual(follower(STAR, STAR_TURNS, 1), 3)
        self.assertEqual(follower(STAR, STAR_TURNS, 2), 4)
        self.assertEqual(follower(STAR, STAR_TURNS, 5), 0)

    def test_one_tie_alone_goes_back(self):
        self.assertEqual([follower(STAR, STAR_TURNS, dart) for dart in [0, 3, 4]], [1, 2, 5])
        self.assertEqual([follower(ties_of([(1, 0)]), [[0], [0]], dart) for dart in [0, 1]], [1, 0])

    def test_the_list_s_order_not_the_numbers_order(self):
        turns = [[2, 0, 1], [0], [1], [2]]
        self.assertEqual([follower(STAR, turns, dart) for dart in [1, 2, 5]], [3, 4, 0])
        turns = [[0, 2, 1], [0], [1], [2]]
        self.assertEqual([follower(STAR, turns, dart) for dart in [1, 2, 5]], [4, 0, 3])

    def test_two_ties_with_the_same_ends(self):
        ties = ties_of([(0, 1), (1, 0)])
        self.assertEqual([follower(ties, [[0, 1], [0, 1]], dart) for dart in range(4)], [2, 3, 0, 1])


class Rounds(unittest.TestCase):
    def holds(self, ties, turns, rounds):
        self.assertEqual(rounds_of(ties, turns), rounds)

    def test_one_tie(self):
        self.holds(ties_of([(0, 1)]), [[0], [0]], [[0, 1]])

    def test_triangle(self):
        self.holds(TRIANGLE, TRIANGLE_TURNS, [[0, 2, 5], [1, 4, 3]])

    def test_star_is_one_round(self):
        self.holds(STAR, STAR_TURNS, [[0, 1, 3, 2, 4, 5]])

    def test_two_ties_with_the_same_ends(self):
        self.holds(ties_of([(0, 1), (0, 1)]), [[0, 1], [0, 1]], [[0, 3], [1, 2]])
        self.holds(ties_of([(0, 1), (1, 0)]), [[0, 1], [1, 0]], [[0, 2], [1, 3]])

    def test_three_ties_with_the_same_ends(self):
        ties = ties_of([(0, 1), (0, 1), (0, 1)])
        self.holds(ties, [[0, 1, 2], [2, 1, 0]], [[0, 5], [1, 2], [3, 4]])

    def test_on_no_plane(self):
        ties = ties_of([(0, 1), (0, 1), (0, 1)])
        self.holds(ties, [[0, 1, 2], [0, 1, 2]], [[0, 3, 4, 1, 2, 5]])

    def test_several_pieces(self):
        ties = ties_of([(0, 1), (3, 4), (1, 2), (4, 5), (2, 0), (5, 3)])
        turns = [[0, 4], [0, 2], [2, 4], [1, 5], [1, 3], [3, 5]]
        self.holds(ties, turns, [[0, 4, 8], [1, 9, 5], [2, 6, 10], [3, 11, 7]])

    def test_places_without_ties(self):
        ties = ties_of([(1, 3), (3, 1)])
        self.holds(ties, [[], [0, 1], [], [1, 0], []], [[0, 2], [1, 3]])

    def test_no_ties(self):
        self.holds([], [[], []], [])

    def test_the_least_dart_goes_first(self):
        # In most of these rounds the darts behind the least one rise and fall.
        ties, turns = grid(3, 3)
        outer = [0, 4, 8, 18, 23, 21, 13, 3]
        self.holds(ties, turns, [outer, [1, 2, 10, 7], [5, 6, 14, 9], [11, 12, 20, 17], [15, 16, 22, 19]])

    def test_a_list_may_start_anywhere(self):
        ties, turns = grid(3, 3)
        rounds = rounds_of(ties, turns)
        for place in range(9):
            for cut in range(len(turns[place])):
                turned = copy.deepcopy(turns)
                turned[place] = turned[place][cut:] + turned[place][:cut]
                self.assertEqual(rounds_of(ties, turned), rounds)


class Sides(unittest.TestCase):
    def holds(self, ties, turns, sides):
        self.assertEqual(sides_of(ties, rounds_of(ties, turns)), sides)

    def test_triangle(self):
        self.holds(TRIANGLE, TRIANGLE_TURNS, [(0, 1), (0, 1), (1, 0)])

    def test_the_same_round_on_both_sides(self):
        self.holds(STAR, STAR_TURNS, [(0, 0), (0, 0), (0, 0)])
        # A triangle with a tail: the tail's tie has one round on both sides, the others two.
        ties = ties_of([(0, 1), (1, 2), (2, 0), (2, 3)])
        self.holds(ties, [[0, 2], [0, 1], [1, 2, 3], [3]], [(0, 1), (0, 1), (0, 1), (1, 1)])

    def test_several_pieces(self):
        ties = ties_of([(0, 1), (3, 4), (1, 2), (4, 5), (2, 0), (5, 3)])
        turns = [[0, 4], [0, 2], [2, 4], [1, 5], [1, 3], [3, 5]]
        self.holds(ties, turns, [(0, 1), (2, 3), (0, 1), (2, 3), (0, 1), (2, 3)])

    def test_on_no_plane(self):
        self.holds(ties_of([(0, 1), (0, 1), (0, 1)]), [[0, 1, 2], [0, 1, 2]], [(0, 0), (0, 0), (0, 0)])

    def test_no_ties(self):
        self.holds([], [[], []], [])


class AnyTurns(unittest.TestCase):
    def follows(self, ties, turns, dart, other):
        # Point 2.2 said again by looking, without the program's own words.
        ends = [(tie.one, tie.two) for tie in ties]
        place = ends[dart // 2][1 - dart % 2]
        about = turns[place]
        pairs = list(zip(about, about[1:] + about[:1]))
        return ends[other // 2][other % 2] == place and (dart // 2, other // 2) in pairs

    def holds(self, ties, turns):
        rounds = rounds_of(ties, turns)
        gone = [dart for row in rounds for dart in row]
        self.assertEqual(sorted(gone), list(range(2 * len(ties))))
        for row in rounds:
            self.assertEqual(row[0], min(row))
            for dart, other in zip(row, row[1:] + row[:1]):
                self.assertTrue(self.follows(ties, turns, dart, other))
                self.assertEqual(follower(ties, turns, dart), other)
        self.assertEqual([row[0] for row in rounds], sorted(row[0] for row in rounds))
        sides = sides_of(ties, rounds)
        self.assertEqual(len(sides), len(ties))
        for i, (one, two) in enumerate(sides):
            self.assertIn(2 * i, rounds[one])
            self.assertIn(2 * i + 1, rounds[two])
        return rounds

    def test_all_turns_of_four_places_each_tied_to_each(self):
        counts = {}
        for turns in all_turns(4, FULL_FOUR):
            found = len(self.holds(FULL_FOUR, turns))
            counts[found] = counts.get(found, 0) + 1
        # Of the 16 ways about the places 2 are flat; each stands for 81 ways to write the lists.
        self.assertEqual(counts[4], 2 * 81)
        self.assertEqual(counts[2], 14 * 81)

    def test_all_turns_with_parallel_ties_and_a_lone_place(self):
        ties = ties_of([(0, 1), (1, 0), (0, 1), (2, 1), (4, 5)])
        for turns in all_turns(6, ties):
            self.holds(ties, turns)

    def test_the_greatest_webs(self):
        ties, turns = doubled_ring(40)
        rounds = self.holds(ties, turns)
        self.assertEqual(len(rounds), 42)
        self.assertEqual(sorted(len(row) for row in rounds), [2] * 40 + [40] * 2)
        ties, turns = grid(5, 8)
        rounds = self.holds(ties, turns)
        self.assertEqual(sorted(len(row) for row in rounds), [4] * 28 + [22])


class Staying(unittest.TestCase):
    def setUp(self):
        self.ties, self.turns = grid(3, 4)
        self.kept = list(self.ties)
        self.ahead = (fields(self.ties), copy.deepcopy(self.turns))

    def stays(self):
        self.assertEqual((fields(self.ties), self.turns), self.ahead)
        self.assertEqual(self.ties, self.kept)

    def test_what_is_handed_in_stays(self):
        for dart in range(2 * len(self.ties)):
            tail(self.ties, dart)
            head(self.ties, dart)
            follower(self.ties, self.turns, dart)
            self.stays()
        rounds = rounds_of(self.ties, self.turns)
        self.stays()
        told = copy.deepcopy(rounds)
        sides_of(self.ties, rounds)
        self.stays()
        self.assertEqual(rounds, told)

    def test_what_is_told_is_the_askers_own(self):
        rounds = rounds_of(self.ties, self.turns)
        sides = sides_of(self.ties, rounds)
        told = (copy.deepcopy(rounds), list(sides))
        for row in rounds:
            row.append(99)
        rounds.append([])
        sides.append((7, 7))
        self.stays()
        again = rounds_of(self.ties, self.turns)
        self.assertEqual((again, sides_of(self.ties, again)), told)

    def test_nothing_is_kept_of_what_is_handed_in(self):
        rounds = rounds_of(self.ties, self.turns)
        sides = sides_of(self.ties, rounds)
        told = (copy.deepcopy(rounds), list(sides))
        for about in self.turns:
            about.reverse()
        self.ties.pop()
        self.assertEqual((rounds, sides), told)
        rounds[0].append(99)
        self.assertEqual(sides, told[1])


class Kinds(unittest.TestCase):
    def whole(self, value):
        self.assertIs(type(value), int)

    def test_kinds(self):
        ties, turns = grid(2, 3)
        for dart in range(2 * len(ties)):
            self.whole(tail(ties, dart))
            self.whole(head(ties, dart))
            self.whole(follower(ties, turns, dart))
        rounds = rounds_of(ties, turns)
        self.assertIs(type(rounds), list)
        for row in rounds:
            self.assertIs(type(row), list)
            for dart in row:
                self.whole(dart)
        sides = sides_of(ties, rounds)
        self.assertIs(type(sides), list)
        for pair in sides:
            self.assertIs(type(pair), tuple)
            self.assertEqual(len(pair), 2)
            for number in pair:
                self.whole(number)


if __name__ == "__main__":
    unittest.main()
