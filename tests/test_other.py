"""Point 4.1: the other web; 0.3 to 0.6 over it."""

import unittest

from samples import GREATEST, all_fields, great_webs, small_webs
from spinfloor.other import links_of
from spinfloor.ties import Pull, Push
from spinfloor.webs import Web


class Links(unittest.TestCase):
    def test_one_tie(self):
        for tie in [Pull(0, 1, 0), Push(0, 1, GREATEST), Pull(1, 0, 5)]:
            self.assertEqual(links_of(Web(2, [tie], [[0], [0]])), [(0, 0, tie.strength)])

    def test_the_order_of_the_darts(self):
        # Dart 4 of tie 2 lies in round 1, dart 5 in round 0.
        web = Web(3, [Pull(0, 1, 3), Push(1, 2, 0), Push(0, 2, 5)], [[0, 2], [0, 1], [1, 2]])
        self.assertEqual(links_of(web), [(0, 1, 3), (0, 1, 0), (1, 0, 5)])

    def test_a_tie_with_the_same_round_on_both_sides(self):
        web = Web(4, [Pull(0, 1, 3), Push(1, 2, 4), Push(2, 0, 5), Pull(2, 3, 6)], [[0, 2], [0, 1], [1, 2, 3], [3]])
        self.assertEqual(links_of(web), [(0, 1, 3), (0, 1, 4), (0, 1, 5), (1, 1, 6)])

    def test_ties_with_the_same_ends(self):
        web = Web(2, [Pull(0, 1, 1), Push(0, 1, 2), Pull(0, 1, 3)], [[0, 1, 2], [2, 1, 0]])
        self.assertEqual(links_of(web), [(0, 1, 1), (1, 2, 2), (2, 0, 3)])

    def test_against_the_rounds(self):
        for web in [*small_webs(), *great_webs()]:
            links = links_of(web)
            self.assertEqual(len(links), len(web.ties))
            for i, (one, two, length) in enumerate(links):
                self.assertIn(2 * i, web.rounds[one])
                self.assertIn(2 * i + 1, web.rounds[two])
                self.assertEqual(length, web.ties[i].strength)


class Staying(unittest.TestCase):
    def test_webs_stay_and_the_same_is_told_each_time(self):
        for web in small_webs():
            ahead = repr(all_fields(web))
            links = links_of(web)
            told = list(links)
            links.append((0, 0, 0))
            links[0] = None
            self.assertEqual(links_of(web), told)
            self.assertEqual(repr(all_fields(web)), ahead)

    def test_kinds(self):
        for web in small_webs():
            links = links_of(web)
            self.assertIs(type(links), list)
            self.assertEqual({(type(link), len(link)) for link in links}, {(tuple, 3)})
            self.assertEqual({type(number) for link in links for number in link}, {int})


if __name__ == "__main__":
    unittest.main()
