"""Point 8.4: each worth, and how many layings have it; 0.2 to 0.6 over it."""

import collections
import inspect
import unittest

from samples import GREATEST, Dice, all_costs, all_fields, grid, grown, is_pair, refusal, star, tried_webs, triangle
from spinfloor.errors import BadOrder, TooWide
from spinfloor.fronts import fronts
from spinfloor.tables import least_many
from spinfloor.ties import Pull, Push
from spinfloor.webs import Web
from spinfloor.worths import worths


def counted(web):
    return sorted(collections.Counter(all_costs(web)).items())


class Worths(unittest.TestCase):
    def test_known(self):
        self.assertEqual(worths(triangle()), [(3, 2), (4, 2), (5, 2), (12, 2)])
        self.assertEqual(worths(triangle(3, 3, 3)), [(3, 6), (9, 2)])
        self.assertEqual(worths(triangle(0, 0, 0)), [(0, 8)])
        self.assertEqual(worths(Web(2, [Push(0, 1, GREATEST)], [[0], [0]])), [(0, 2), (GREATEST, 2)])

    def test_all_layings_gone_through(self):
        for seed, web in enumerate(tried_webs(100, 8)):
            told = counted(web)
            places = list(range(web.many))
            for order in (None, places, places[::-1], Dice(seed).mixed(places), Dice(seed + 9).mixed(places)):
                self.assertEqual(worths(web, order), told)
            self.assertEqual(worths(web), told)

    def test_sixteen_places_and_seventeen(self):
        web = grown(6, 16, 30, [1, 2, 3])
        told = worths(web)
        self.assertEqual(told, counted(web))
        self.assertEqual(sum(many for worth, many in told), 2 ** 16)
        self.assertEqual(worths(web, Dice(1).mixed(range(16))), told)
        self.assertIs(refusal(worths, grown(6, 17, 30)), TooWide)
        self.assertIs(refusal(worths, Web(40, *grid(5, 8)), list(range(40))), TooWide)
        self.assertIs(refusal(worths, Web(17, [Pull(i, i + 1, 1) for i in range(16)], row_turns(17))), TooWide)

    def test_no_front_is_too_wide(self):
        web = star(15)
        self.assertEqual(max(bin(front).count("1") for front in fronts(web)), 15)
        self.assertIs(refusal(least_many, web), TooWide)
        told = worths(web)
        self.assertEqual(told, worths(web, list(range(15, -1, -1))))
        # So many ways to choose which of fifteen ties are unpleased, each in two layings.
        self.assertEqual(told[:3], [(0, 2), (1, 30), (2, 210)])
        self.assertEqual(sum(many for worth, many in told), 2 ** 16)

    def test_many_worths(self):
        web = Web(16, [Pull(i, i + 1, 2 ** i) for i in range(15)], row_turns(16))
        self.assertEqual(worths(web), [(worth, 2) for worth in range(2 ** 15)])
        dense = grown(7, 16, 80, range(1, 10 ** 6, 977))
        told = worths(dense)
        self.assertEqual(told[0], least_many(dense, sorted(range(16), key=lambda p: -len(dense.turns[p]))))
        self.assertEqual(sum(many for worth, many in told), 2 ** 16)

    def test_an_order_that_is_none(self):
        for web in (triangle(), star(15), star(16), Web(40, *grid(5, 8))):
            places = list(range(web.many))
            wrong = [[], places[1:], places + [0], [0] + places[:-1], places[:-1] + [web.many], [-1] + places[1:]]
            for order in wrong:
                # BadOrder goes ahead of TooWide.
                self.assertIs(refusal(worths, web, order), BadOrder)

    def test_where_no_order_is_handed_in(self):
        self.assertIsNone(inspect.signature(worths).parameters["order"].default)

    def test_kinds_and_nothing_changed(self):
        for web in tried_webs(30):
            before = all_fields(web)
            order = Dice(web.many).mixed(range(web.many))
            kept = list(order)
            told = worths(web, order)
            self.assertTrue(type(told) is list and all(is_pair(pair) for pair in told))
            answer = list(told)
            told.pop()
            self.assertEqual(worths(web, order), answer)
            self.assertEqual((order, all_fields(web)), (kept, before))


def row_turns(many):
    return [[i for i in (place - 1, place) if 0 <= i < many - 1] for place in range(many)]


if __name__ == "__main__":
    unittest.main()
