"""Points 10.1 to 10.5: climbs, shores, falls, and what rests; 0.2 to 0.6 over them."""

import itertools
import unittest

from samples import GREATEST, Dice, all_costs, all_fields, grid, grown, is_number, refusal, tried_webs, triangle
from spinfloor.climbs import climb, falls, resting, shore
from spinfloor.errors import TooWide
from spinfloor.ties import Pull, Push
from spinfloor.webs import Web


def steps(web, laying):
    return [laying ^ 2 ** place for place in range(web.many)]


def climbs_from(web, costs, start):
    """For each laying the least height of all ways there: heights that fall until nothing changes any more."""
    heights = {start: costs[start]}
    changed = True
    while changed:
        changed = False
        for here in list(heights):
            for there in steps(web, here):
                height = max(heights[here], costs[there])
                if height < heights.get(there, height + 1):
                    heights[there] = height
                    changed = True
    return heights


def walked(web, start, let):
    met, waiting = {start}, [start]
    while waiting:
        here = waiting.pop()
        for there in steps(web, here):
            if there not in met and let(here, there):
                met.add(there)
                waiting.append(there)
    return sorted(met)


def row(many, strength=1):
    ties = [Pull(place, place + 1, strength) for place in range(many - 1)]
    return Web(many, ties, [[i for i in (place - 1, place) if 0 <= i < many - 1] for place in range(many)])


class Climb(unittest.TestCase):
    def test_known(self):
        web = row(3)
        self.assertEqual(climb(web, 0, 0), (0, [0]))
        self.assertEqual(climb(web, 2, 2), (2, [2]))
        self.assertEqual(climb(web, 0, 1), (1, [0, 1]))
        self.assertEqual(climb(web, 0, 7)[0], 1)
        self.assertIn(climb(web, 0, 7)[1], ([0, 1, 3, 7], [0, 4, 6, 7]))
        self.assertEqual(climb(web, 0, 2)[0], 2)
        self.assertEqual(climb(Web(2, [Push(0, 1, GREATEST)], [[0], [0]]), 1, 2)[0], GREATEST)
        self.assertEqual(climb(row(2, 0), 0, 3)[0], 0)
        # Six places in a ring of pulls: two ties at once must be unpleased on every way.
        ring = Web(6, [Pull(i, (i + 1) % 6, 5) for i in range(6)], [[i, (i - 1) % 6] for i in range(6)])
        self.assertEqual(climb(ring, 0, 63)[0], 10)

    def test_all_ways_gone_through(self):
        for seed, web in enumerate(tried_webs(60, 6)):
            costs = all_costs(web)
            dice = Dice(seed)
            for start in {0, 2 ** web.many - 1, dice.under(2 ** web.many)}:
                heights = climbs_from(web, costs, start)
                for goal in range(2 ** web.many):
                    self.holds(web, costs, start, goal, heights[goal])

    def holds(self, web, costs, start, goal, height):
        told, way = climb(web, start, goal)
        self.assertEqual(told, height)
        self.assertEqual((way[0], way[-1]), (start, goal))
        self.assertEqual(len(set(way)), len(way))
        self.assertEqual(max(costs[laying] for laying in way), height)
        for one, two in zip(way, way[1:]):
            self.assertEqual(bin(one ^ two).count("1"), 1)

    def test_start_and_goal_the_same(self):
        for web in tried_webs(12):
            costs = all_costs(web)
            for laying in range(2 ** web.many):
                self.assertEqual(climb(web, laying, laying), (costs[laying], [laying]))

    def test_as_high_there_as_back(self):
        for seed, web in enumerate(tried_webs(30)):
            dice = Dice(seed)
            one, two = dice.under(2 ** web.many), dice.under(2 ** web.many)
            self.assertEqual(climb(web, one, two)[0], climb(web, two, one)[0])

    def test_ten_places(self):
        for web in (grown(3, 10, 20), grown(4, 10, 80, [1, 2, 3]), Web(10, *grid(2, 5))):
            costs = all_costs(web)
            heights = climbs_from(web, costs, 0)
            for goal in (1, 341, 1023, 777):
                self.holds(web, costs, 0, goal, heights[goal])

    def test_kinds_and_nothing_changed(self):
        for web in tried_webs(20):
            before = all_fields(web)
            told = climb(web, 0, 2 ** web.many - 1)
            self.assertTrue(type(told) is tuple and len(told) == 2 and is_number(told[0]) and type(told[1]) is list)
            self.assertTrue(all(is_number(laying) for laying in told[1]))
            answer = (told[0], list(told[1]))
            told[1].clear()
            self.assertEqual(climb(web, 0, 2 ** web.many - 1), answer)
            self.assertEqual(all_fields(web), before)


class Shore(unittest.TestCase):
    def test_known(self):
        web = row(3)
        self.assertEqual(shore(web, 0, 0), [])
        self.assertEqual(shore(web, 0, -1), [])
        self.assertEqual(shore(web, 0, -10 ** 40), [])
        self.assertEqual(shore(web, 0, 1), [0])
        self.assertEqual(shore(web, 7, 1), [7])
        self.assertEqual(shore(web, 0, 2), [0, 1, 3, 4, 6, 7])
        self.assertEqual(shore(web, 2, 2), [])
        self.assertEqual(shore(web, 2, 3), list(range(8)))
        self.assertEqual(shore(web, 0, 10 ** 40), list(range(8)))

    def test_all_ways_gone_through(self):
        for seed, web in enumerate(tried_webs(40, 6)):
            costs = all_costs(web)
            for start in {0, 2 ** web.many - 1, Dice(seed).under(2 ** web.many)}:
                for height in sorted({0, -1, *costs, *[cost + 1 for cost in costs]}):
                    told = shore(web, start, height)
                    if costs[start] >= height:
                        self.assertEqual(told, [])
                    else:
                        self.assertEqual(told, walked(web, start, lambda here, there: costs[there] < height))

    def test_it_shows_how_high_a_climb_is(self):
        for seed, web in enumerate(tried_webs(30, 6)):
            costs = all_costs(web)
            for start, goal in itertools.product((0, Dice(seed).under(2 ** web.many)), range(2 ** web.many)):
                height = climb(web, start, goal)[0]
                below = shore(web, start, height)
                self.assertNotIn(goal, below)
                self.assertIn(goal, shore(web, start, height + 1))
                for laying in below:
                    for there in steps(web, laying):
                        self.assertTrue(there in below or costs[there] >= height)

    def test_ten_places(self):
        web = grown(5, 10, 24, [1, 2, 3])
        costs = all_costs(web)
        for height in (3, 8, 15, 1000):
            told = shore(web, costs.index(min(costs)), height)
            self.assertEqual(told, [] if min(costs) >= height else walked(
                web, costs.index(min(costs)), lambda here, there: costs[there] < height))


class Falls(unittest.TestCase):
    def test_known(self):
        web = row(3)
        self.assertEqual(falls(web, 0), [0])
        self.assertEqual(falls(web, 1), [0, 1, 3, 7])
        self.assertEqual(falls(web, 2), [0, 1, 2, 3, 4, 6, 7])
        self.assertEqual(falls(row(3, 0), 5), list(range(8)))

    def test_all_ways_gone_through(self):
        for web in tried_webs(60):
            costs = all_costs(web)
            for start in range(2 ** web.many):
                self.assertEqual(falls(web, start), walked(web, start, lambda here, there: costs[there] <= costs[here]))

    def test_itself_too(self):
        for web in tried_webs(12):
            for start in range(2 ** web.many):
                self.assertIn(start, falls(web, start))


class Resting(unittest.TestCase):
    def test_known(self):
        self.assertEqual(resting(row(3)), [0, 7])
        self.assertEqual(resting(row(2, 0)), [0, 1, 2, 3])
        self.assertEqual(resting(triangle()), [1, 6])
        self.assertEqual(resting(triangle(3, 3, 3)), [0, 1, 3, 4, 6, 7])
        # In four places of a row two halves rest, too, where the tie between them is the least one.
        ties = [Pull(0, 1, 5), Pull(1, 2, 1), Pull(2, 3, 5)]
        self.assertEqual(resting(Web(4, ties, [[0], [0, 1], [1, 2], [2]])), [0, 3, 12, 15])

    def test_all_layings_gone_through(self):
        for web in [*tried_webs(80, 8), grown(3, 10, 22)]:
            costs = all_costs(web)
            told = [
                laying for laying in range(2 ** web.many)
                if not [there for there in steps(web, laying) if costs[there] < costs[laying]]
            ]
            self.assertEqual(resting(web), told)

    def test_kinds_and_nothing_changed(self):
        for web in tried_webs(20):
            before = all_fields(web)
            for ask in (lambda: shore(web, 0, 5), lambda: falls(web, 1), lambda: resting(web)):
                told = ask()
                self.assertTrue(type(told) is list and all(is_number(laying) for laying in told))
                answer = list(told)
                told.append(-1)
                self.assertEqual(ask(), answer)
            self.assertEqual(all_fields(web), before)


class Refused(unittest.TestCase):
    def test_ten_places_and_eleven(self):
        for many, refused in ((10, None), (11, TooWide), (12, TooWide), (40, TooWide)):
            web = row(many)
            self.assertIs(refusal(climb, web, 0, 1), refused)
            self.assertIs(refusal(climb, web, 0, 0), refused)
            self.assertIs(refusal(shore, web, 0, 1), refused)
            self.assertIs(refusal(shore, web, 0, -1), refused)
            self.assertIs(refusal(falls, web, 0), refused)
            self.assertIs(refusal(resting, web), refused)


if __name__ == "__main__":
    unittest.main()
