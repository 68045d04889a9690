"""Points 2.1, 2.3 and 2.4: webs, and what they are refused with; 0.4 to 0.6 over them."""

import copy
import unittest

from samples import GREATEST, all_fields, all_turns, doubled_ring, fields, great_webs, grid, small_webs, ties_of
from spinfloor.darts import rounds_of, sides_of
from spinfloor.errors import BadTie, BadTurns, FloorError, NotFlat, Parted
from spinfloor.ties import Pull, Push
from spinfloor.webs import Web

TRIANGLE = ties_of([(0, 1), (1, 2), (0, 2)])
TRIANGLE_TURNS = [[0, 2], [0, 1], [1, 2]]
FULL_FOUR = ties_of([(0, 1), (2, 0), (0, 3), (1, 2), (3, 1), (2, 3)])
THREE_ALIKE = ties_of([(0, 1), (0, 1), (0, 1)])


class Made(unittest.TestCase):
    def holds(self, many, ties, turns, rounds, sides):
        web = Web(many, ties, turns)
        self.assertEqual(web.many, many)
        self.assertEqual([id(tie) for tie in web.ties], [id(tie) for tie in ties])
        self.assertEqual((web.turns, web.rounds, web.sides), (turns, rounds, sides))

    def test_two_places_and_one_tie(self):
        for tie in [Pull(0, 1, 0), Push(0, 1, GREATEST), Pull(1, 0, 3)]:
            self.holds(2, [tie], [[0], [0]], [[0, 1]], [(0, 0)])

    def test_triangle(self):
        self.holds(3, TRIANGLE, TRIANGLE_TURNS, [[0, 2, 5], [1, 4, 3]], [(0, 1), (0, 1), (1, 0)])

    def test_a_tie_both_of_whose_darts_lie_in_one_round(self):
        ties = ties_of([(0, 1), (1, 2), (2, 0), (2, 3)])
        turns = [[0, 2], [0, 1], [1, 2, 3], [3]]
        self.holds(4, ties, turns, [[0, 2, 4], [1, 5, 6, 7, 3]], [(0, 1), (0, 1), (0, 1), (1, 1)])

    def test_ties_with_the_same_ends(self):
        ties = ties_of([(0, 1), (1, 0)])
        self.holds(2, ties, [[0, 1], [0, 1]], [[0, 2], [1, 3]], [(0, 1), (0, 1)])
        turns = [[0, 1, 2], [2, 1, 0]]
        self.holds(2, THREE_ALIKE, turns, [[0, 5], [1, 2], [3, 4]], [(0, 1), (1, 2), (2, 0)])

    def test_the_greatest_webs(self):
        for web in great_webs():
            self.assertEqual(web.rounds, rounds_of(web.ties, web.turns))
            self.assertEqual(web.sides, sides_of(web.ties, web.rounds))
            self.assertEqual(web.many - len(web.ties) + len(web.rounds), 2)

    def test_somewhat_beyond_the_bounds_is_let(self):
        ties, turns = doubled_ring(41)
        web = Web(41, ties, turns)
        self.assertEqual((web.many, len(web.ties), len(web.rounds)), (41, 82, 43))
        self.assertEqual(len(Web(2, [Push(0, 1, GREATEST + 1)], [[0], [0]]).rounds), 1)

    def test_no_method_but_the_making(self):
        own = [name for name, value in vars(Web).items() if callable(value)]
        self.assertEqual(own, ["__init__"])
        self.assertEqual(Web.__bases__, (object,))
        self.assertEqual(sorted(vars(Web(3, TRIANGLE, TRIANGLE_TURNS))), ["many", "rounds", "sides", "ties", "turns"])


class Refused(unittest.TestCase):
    def refuses(self, refusal, many, ties, turns):
        ahead = (fields(ties), copy.deepcopy(turns))
        for turn in range(2):
            with self.assertRaises(FloorError) as caught:
                Web(many, ties, turns)
            self.assertIs(type(caught.exception), refusal)
            self.assertEqual((fields(ties), turns), ahead)


class Ends(Refused):
    def test_an_end_that_is_no_place(self):
        for one, two in [(0, 2), (2, 0), (1, 2), (0, 3), (39, 1), (2, 3), (10 ** 31, 0)]:
            self.refuses(BadTie, 2, [Pull(one, two, 4)], [[0], [0]])
        self.refuses(BadTie, 3, [*TRIANGLE[:2], Push(0, 3, 1)], TRIANGLE_TURNS)
        self.refuses(BadTie, 3, [Push(3, 1, 1), *TRIANGLE[1:]], TRIANGLE_TURNS)

    def test_also_where_the_turns_tell_that_place(self):
        self.refuses(BadTie, 2, [Pull(0, 1, 1), Pull(1, 2, 1)], [[0], [0, 1], [1]])

    def test_ahead_of_all_others(self):
        bad = Pull(0, 2, 1)
        for turns in [[], [[]], [[0], []], [[0, 0], [0]], [[5], [5]], [[0], [0], [0]]]:
            self.refuses(BadTie, 2, [bad], turns)
        # Parted, or on no plane, were the last tie not there.
        self.refuses(BadTie, 4, [Pull(0, 1, 1), Pull(2, 3, 1), Pull(0, 4, 1)], [[0, 2], [0], [1], [1]])
        self.refuses(BadTie, 2, [*THREE_ALIKE, bad], [[0, 1, 2, 3], [0, 1, 2]])


class Turns(Refused):
    def test_not_as_many_lists_as_places(self):
        for turns in [[], [[0, 2], [0, 1]], TRIANGLE_TURNS + [[]], TRIANGLE_TURNS + [[0]]]:
            self.refuses(BadTurns, 3, TRIANGLE, turns)

    def test_a_list_that_lacks_a_tie(self):
        for place in range(3):
            for kept in TRIANGLE_TURNS[place]:
                turns = copy.deepcopy(TRIANGLE_TURNS)
                turns[place] = [kept]
                self.refuses(BadTurns, 3, TRIANGLE, turns)
            turns[place] = []
            self.refuses(BadTurns, 3, TRIANGLE, turns)

    def test_a_list_with_one_too_much(self):
        for place in range(3):
            for number in [0, 1, 2, 3, 80, -1, 10 ** 31]:
                for spot in range(3):
                    turns = copy.deepcopy(TRIANGLE_TURNS)
                    turns[place].insert(spot, number)
                    self.refuses(BadTurns, 3, TRIANGLE, turns)

    def test_a_list_with_another_tie_in_a_tie_s_stead(self):
        for place in range(3):
            for spot in range(2):
                for number in [0, 1, 2, 3, -1, -2, -3]:
                    turns = copy.deepcopy(TRIANGLE_TURNS)
                    if number != turns[place][spot]:
                        turns[place][spot] = number
                        self.refuses(BadTurns, 3, TRIANGLE, turns)

    def test_lists_that_stand_at_one_another_s_place(self):
        self.refuses(BadTurns, 3, TRIANGLE, [[0, 1], [0, 2], [1, 2]])
        self.refuses(BadTurns, 3, ties_of([(0, 1), (1, 2)]), [[0, 1], [0], [1]])

    def test_ahead_of_parted_and_of_no_plane(self):
        self.refuses(BadTurns, 2, [], [[]])
        self.refuses(BadTurns, 3, ties_of([(0, 1)]), [[0], [0], [0]])
        self.refuses(BadTurns, 4, ties_of([(0, 1), (2, 3)]), [[0], [0], [1], [0]])
        self.refuses(BadTurns, 2, THREE_ALIKE, [[0, 1, 2], [0, 1, 1]])

    def test_in_whatever_order_they_are_right(self):
        for web in small_webs():
            for place in range(web.many):
                about = web.turns[place]
                turns = copy.deepcopy(web.turns)
                turns[place] = about[1:] + about[:1]
                self.assertEqual(Web(web.many, web.ties, turns).rounds, web.rounds)


class Apart(Refused):
    def test_a_place_without_ties(self):
        self.refuses(Parted, 2, [], [[], []])
        self.refuses(Parted, 3, ties_of([(0, 1)]), [[0], [0], []])
        self.refuses(Parted, 3, ties_of([(0, 2)]), [[0], [], [0]])
        self.refuses(Parted, 3, ties_of([(2, 1)]), [[], [0], [0]])
        self.refuses(Parted, 40, ties_of([(p, p + 1) for p in range(38)]), [
            [0], *[[p - 1, p] for p in range(1, 38)], [37], []])

    def test_several_pieces(self):
        self.refuses(Parted, 4, ties_of([(0, 1), (2, 3)]), [[0], [0], [1], [1]])
        self.refuses(Parted, 4, ties_of([(0, 3), (2, 1)]), [[0], [1], [1], [0]])
        ties = ties_of([(0, 1), (3, 4), (1, 2), (4, 5), (2, 0), (5, 3)])
        self.refuses(Parted, 6, ties, [[0, 4], [0, 2], [2, 4], [1, 5], [1, 3], [3, 5]])

    def test_where_the_sum_is_two_all_the_same(self):
        # A flat piece, and one on no plane: 4 places, 4 ties, 2 rounds.
        ties = ties_of([(0, 1), (2, 3), (2, 3), (2, 3)])
        turns = [[0], [0], [1, 2, 3], [1, 2, 3]]
        self.assertEqual(len(rounds_of(ties, turns)), 2)
        self.refuses(Parted, 4, ties, turns)

    def test_ahead_of_no_plane(self):
        ties = ties_of([(2, 3), (0, 1), (0, 1), (0, 1)])
        self.refuses(Parted, 5, ties, [[1, 2, 3], [1, 2, 3], [0], [0], []])


class NoPlane(Refused):
    def test_three_ties_with_the_same_ends(self):
        self.refuses(NotFlat, 2, THREE_ALIKE, [[0, 1, 2], [0, 1, 2]])
        self.refuses(NotFlat, 2, THREE_ALIKE, [[1, 2, 0], [2, 0, 1]])

    def test_one_place_alone(self):
        self.refuses(NotFlat, 1, [], [[]])

    def test_five_places_each_tied_to_each(self):
        ties = ties_of([(one, two) for one in range(5) for two in range(one)])
        for count, turns in enumerate(all_turns(5, ties)):
            if count % 9973 == 0:
                self.refuses(NotFlat, 5, ties, turns)
            if count > 10 ** 6:
                break

    def test_two_lists_of_a_grid_with_two_ties_changed(self):
        ties, turns = grid(3, 3)
        turns[4][0], turns[4][1] = turns[4][1], turns[4][0]
        self.refuses(NotFlat, 9, ties, turns)

    def test_all_turns_of_four_places_each_tied_to_each(self):
        flat = 0
        for turns in all_turns(4, FULL_FOUR):
            if len(rounds_of(FULL_FOUR, turns)) == 4:
                flat += 1
                self.assertEqual(Web(4, FULL_FOUR, turns).turns, turns)
            else:
                self.refuses(NotFlat, 4, FULL_FOUR, turns)
        self.assertEqual(flat, 2 * 81)


class Staying(unittest.TestCase):
    def setUp(self):
        self.ties, self.turns = grid(3, 4)
        self.ahead = (fields(self.ties), copy.deepcopy(self.turns))

    def test_what_is_handed_in_stays(self):
        Web(12, self.ties, self.turns)
        self.assertEqual((fields(self.ties), self.turns), self.ahead)

    def test_a_web_stays_whatever_becomes_of_the_lists(self):
        web = Web(12, self.ties, self.turns)
        told = copy.deepcopy(all_fields(web))
        kept = list(web.ties)
        for about in self.turns:
            about.reverse()
            about.append(7)
        self.turns.pop()
        self.ties[0] = Push(5, 4, 3)
        self.ties.pop()
        self.assertEqual(all_fields(web), told)
        self.assertEqual(web.ties, kept)

    def test_two_webs_of_the_same_lists_are_apart(self):
        one, two = Web(12, self.ties, self.turns), Web(12, self.ties, self.turns)
        self.assertEqual(all_fields(one), all_fields(two))
        for name in ["ties", "turns", "rounds", "sides"]:
            self.assertIsNot(getattr(one, name), getattr(two, name))
        for lists in ["turns", "rounds"]:
            for about, again in zip(getattr(one, lists), getattr(two, lists)):
                self.assertIsNot(about, again)


class Kinds(unittest.TestCase):
    def kinds(self, values, kind):
        self.assertEqual([value for value in values if type(value) is not kind], [])

    def test_kinds(self):
        for web in [Web(12, *grid(3, 4)), *small_webs(), *great_webs()]:
            self.kinds([web.ties, web.turns, web.rounds, web.sides], list)
            self.kinds(web.turns + web.rounds, list)
            self.kinds(web.sides, tuple)
            self.kinds([web.many] + [number for row in web.turns + web.rounds + web.sides for number in row], int)
            self.assertEqual({len(pair) for pair in web.sides}, {2})


if __name__ == "__main__":
    unittest.main()
