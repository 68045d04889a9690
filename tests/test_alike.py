"""Point 7.1: both least worths of each tie, and which ties are set; 0.2 to 0.6 over them."""

import unittest

from samples import GREATEST, alike, all_costs, all_fields, bound_webs, is_pair, tried_webs, triangle
from spinfloor.alike import both_ways, set_ties
from spinfloor.allleast import all_least
from spinfloor.errors import FloorError, TooMany, TooRough
from spinfloor.least import least
from spinfloor.ties import Pull, Push
from spinfloor.webs import Web


def both_gone_through(web):
    costs = all_costs(web)
    told = []
    for tie in web.ties:
        sums = {True: [], False: []}
        for laying, cost in enumerate(costs):
            sums[alike(laying, tie)].append(cost)
        told.append((min(sums[True]), min(sums[False])))
    return told


class BothWays(unittest.TestCase):
    def test_known(self):
        self.assertEqual(both_ways(triangle()), [(4, 3), (3, 4), (5, 3)])
        self.assertEqual(both_ways(triangle(3, 3, 9)), [(3, 3), (3, 3), (9, 3)])
        self.assertEqual(both_ways(Web(2, [Pull(0, 1, GREATEST)], [[0], [0]])), [(0, GREATEST)])
        self.assertEqual(both_ways(Web(2, [Push(1, 0, 0)], [[0], [0]])), [(0, 0)])

    def test_all_layings_gone_through(self):
        for web in tried_webs():
            self.assertEqual(both_ways(web), both_gone_through(web))

    def test_at_the_bounds(self):
        for count in (0, 12):
            for web in bound_webs(count):
                worth = least(web)[0]
                told = both_ways(web)
                self.assertEqual(len(told), len(web.ties))
                for pair in told:
                    self.assertEqual(min(pair), worth)

    def test_more_than_twelve_odd_rounds(self):
        for web in bound_webs(14):
            for ask in (both_ways, set_ties):
                with self.assertRaises(FloorError) as caught:
                    ask(web)
                self.assertIs(type(caught.exception), TooRough)

    def test_kinds_and_nothing_changed(self):
        for web in tried_webs(30):
            before = all_fields(web)
            told = both_ways(web)
            self.assertTrue(type(told) is list and all(is_pair(pair) for pair in told))
            self.assertEqual(both_ways(web), told)
            self.assertEqual(all_fields(web), before)


class SetTies(unittest.TestCase):
    def test_known(self):
        self.assertEqual(set_ties(triangle()), [(1, 1), (0, 1), (1, 2)])
        self.assertEqual(set_ties(triangle(3, 3, 9)), [(None, 0), (None, 0), (1, 6)])
        self.assertEqual(set_ties(triangle(0, 0, 0)), [(None, 0)] * 3)
        self.assertEqual(set_ties(Web(2, [Pull(0, 1, GREATEST)], [[0], [0]])), [(0, GREATEST)])
        self.assertEqual(set_ties(Web(2, [Push(0, 1, GREATEST)], [[0], [0]])), [(1, GREATEST)])
        self.assertEqual(set_ties(Web(2, [Push(0, 1, 0)], [[0], [0]])), [(None, 0)])

    def test_all_layings_gone_through(self):
        seen = set()
        for web in tried_webs():
            costs = all_costs(web)
            lows = [laying for laying, cost in enumerate(costs) if cost == min(costs)]
            for tie, told in zip(web.ties, set_ties(web)):
                ways = {alike(laying, tie) for laying in lows}
                seen.add(told[0])
                if len(ways) == 2:
                    self.assertEqual(told, (None, 0))
                else:
                    way = ways.pop()
                    others = [cost for laying, cost in enumerate(costs) if alike(laying, tie) != way]
                    self.assertEqual(told, (0 if way else 1, min(others) - min(costs)))
                    self.assertGreater(told[1], 0)
        self.assertEqual(seen, {0, 1, None})

    def test_at_the_bounds(self):
        for strengths in ([1], [1, 2]):
            for web in bound_webs(12, strengths):
                try:
                    lows = all_least(web, 300)
                except TooMany:
                    continue
                for tie, told in zip(web.ties, set_ties(web)):
                    ways = {alike(laying, tie) for laying in lows}
                    self.assertEqual(told[0], None if len(ways) == 2 else 0 if True in ways else 1)
                    self.assertEqual(told[1] == 0, told[0] is None)

    def test_kinds_and_nothing_changed(self):
        for web in tried_webs(30):
            before = all_fields(web)
            told = set_ties(web)
            self.assertIs(type(told), list)
            for pair in told:
                self.assertTrue(is_pair(pair) or pair == (None, 0))
                self.assertIs(type(pair), tuple)
                self.assertIs(type(pair[1]), int)
            self.assertEqual(set_ties(web), told)
            self.assertEqual(all_fields(web), before)


if __name__ == "__main__":
    unittest.main()
