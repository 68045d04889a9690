"""Points 8.2 and 8.3: tables over fronts, least worths and how many have them; 0.2 to 0.6 over them."""

import inspect
import itertools
import unittest

from samples import GREATEST, Dice, all_costs, all_fields, alike, bound_webs, grid, grown, is_number, is_pair, refusal
from samples import star, tried_webs, triangle, with_odd
from spinfloor.allleast import all_least, narrow_order
from spinfloor.errors import BadOrder, TooMany, TooWide
from spinfloor.fronts import fronts
from spinfloor.least import least
from spinfloor.tables import front_table, least_many
from spinfloor.ties import Pull, Push
from spinfloor.webs import Web


def orders(web, seed):
    places = list(range(web.many))
    return [None, places, places[::-1], Dice(seed).mixed(places), Dice(seed + 50).mixed(places)]


def gone_through(web, order, count):
    """The table by its words, over all signs of the first places."""
    first = order[:count]
    within = [tie for tie in web.ties if tie.one in first and tie.two in first]
    front = [
        place for place in first
        if any(place in (tie.one, tie.two) and tie not in within for tie in web.ties)
    ]
    sums = {}
    for chosen in itertools.product((0, 1), repeat=count):
        laying = sum(2 ** place for place, sign in zip(first, chosen) if sign)
        signs = laying & sum(2 ** place for place in front)
        cost = sum(tie.strength for tie in within if alike(laying, tie) == isinstance(tie, Push))
        sums.setdefault(signs, []).append(cost)
    return [(signs, min(sums[signs]), sums[signs].count(min(sums[signs]))) for signs in sorted(sums)]


def all_signs(front):
    places = [place for place in range(40) if front >> place & 1]
    return [
        sum(2 ** place for k, place in enumerate(places) if number >> k & 1) for number in range(2 ** len(places))
    ]


class FrontTable(unittest.TestCase):
    def test_known(self):
        web = triangle()
        self.assertEqual(front_table(web, None, 0), [(0, 0, 1)])
        self.assertEqual(front_table(web, None, 1), [(0, 0, 1), (1, 0, 1)])
        self.assertEqual(front_table(web, None, 2), [(0, 0, 1), (1, 3, 1), (2, 3, 1), (3, 0, 1)])
        self.assertEqual(front_table(web, None, 3), [(0, 3, 2)])
        self.assertEqual(front_table(web, [2, 0, 1], 2), [(0, 5, 1), (1, 0, 1), (4, 0, 1), (5, 5, 1)])

    def test_equal_lows_are_counted_together(self):
        row = Web(3, [Pull(0, 1, 4), Push(1, 2, 4)], [[0], [0, 1], [1]])
        self.assertEqual(front_table(row, [0, 2, 1], 2), [(0, 0, 1), (1, 0, 1), (4, 0, 1), (5, 0, 1)])
        self.assertEqual(front_table(row, [1, 0, 2], 2), [(0, 0, 1), (2, 0, 1)])
        nothing = Web(3, [Pull(0, 1, 0), Push(1, 2, 0)], [[0], [0, 1], [1]])
        self.assertEqual(front_table(nothing, None, 2), [(0, 0, 2), (2, 0, 2)])
        self.assertEqual(front_table(nothing, None, 3), [(0, 0, 8)])

    def test_all_signs_gone_through(self):
        for seed, web in enumerate(tried_webs(60)):
            for order in orders(web, seed):
                for count in range(web.many + 1):
                    told = front_table(web, order, count)
                    self.assertEqual(told, gone_through(web, order or list(range(web.many)), count))

    def test_one_for_each_way_ascending(self):
        web = Web(40, *grid(5, 8))
        for count in range(0, 41, 3):
            front = fronts(web)[count]
            told = [signs for signs, low, many in front_table(web, None, count)]
            self.assertEqual(told, all_signs(front))

    def test_behind_no_place_and_behind_all(self):
        for web in [*tried_webs(20), *bound_webs(12)]:
            order = narrow_order(web)
            self.assertEqual(front_table(web, order, 0), [(0, 0, 1)])
            told = front_table(web, order, web.many)
            self.assertEqual(len(told), 1)
            self.assertEqual(told[0], (0, *least_many(web, order)))

    def test_eight_places_and_nine(self):
        eight, nine = star(8), star(9)
        self.assertEqual(len(front_table(eight, None, 8)), 256)
        self.assertEqual(front_table(eight, None, 9), [(0, 0, 2)])
        self.assertEqual(len(front_table(nine, None, 8)), 256)
        # The front behind all places is empty, but one ahead of it was too wide.
        for count in (9, 10):
            self.assertIs(refusal(front_table, nine, None, count), TooWide)
        self.assertEqual(front_table(nine, [9, 0, 1, 2, 3, 4, 5, 6, 7, 8], 10), [(0, 0, 2)])
        wide = Web(36, *grid(4, 9))
        self.assertEqual(len(front_table(wide, None, 8)), 256)
        for count in (9, 20, 35, 36):
            self.assertIs(refusal(front_table, wide, None, count), TooWide)
        for count in range(9):
            self.assertIsNone(refusal(front_table, wide, None, count))

    def test_an_order_that_is_none(self):
        for web in (triangle(), star(9), Web(36, *grid(4, 9))):
            places = list(range(web.many))
            wrong = [[], places[1:], places + [0], [0] + places[:-1], places[:-1] + [web.many], [-1] + places[1:]]
            for order in wrong:
                # BadOrder goes ahead of TooWide, and none of the fronts is asked for.
                for count in (0, 1, web.many):
                    self.assertIs(refusal(front_table, web, order, count), BadOrder)
                self.assertIs(refusal(least_many, web, order), BadOrder)

    def test_strengths_at_the_bounds(self):
        ties = [Pull(0, 1, GREATEST), Push(0, 1, GREATEST), Pull(0, 1, 0)]
        web = Web(2, ties, [[0, 1, 2], [2, 1, 0]])
        self.assertEqual(front_table(web, [1, 0], 2), [(0, GREATEST, 4)])

    def test_kinds_and_nothing_changed(self):
        for web in tried_webs(20):
            before = all_fields(web)
            order = Dice(web.many).mixed(range(web.many))
            kept = list(order)
            for count in range(web.many + 1):
                told = front_table(web, order, count)
                self.assertIs(type(told), list)
                for row in told:
                    self.assertTrue(type(row) is tuple and len(row) == 3 and all(is_number(each) for each in row))
                answer = list(told)
                told.clear()
                self.assertEqual(front_table(web, order, count), answer)
            self.assertEqual((order, all_fields(web)), (kept, before))


class LeastMany(unittest.TestCase):
    def test_known(self):
        self.assertEqual(least_many(triangle()), (3, 2))
        self.assertEqual(least_many(triangle(3, 3, 3)), (3, 6))
        self.assertEqual(least_many(triangle(0, 0, 0), [2, 1, 0]), (0, 8))
        self.assertEqual(least_many(Web(2, [Push(0, 1, GREATEST)], [[0], [0]])), (0, 2))
        self.assertEqual(least_many(star(8, 0)), (0, 512))

    def test_all_layings_gone_through(self):
        for seed, web in enumerate(tried_webs(100, 8)):
            costs = all_costs(web)
            for order in orders(web, seed):
                self.assertEqual(least_many(web, order), (min(costs), costs.count(min(costs))))

    def test_whatever_order_is_taken(self):
        web = triangle(1, 1, 2)
        self.assertEqual({least_many(web, list(order)) for order in itertools.permutations(range(3))}, {(1, 4)})

    def test_at_the_bounds(self):
        for strengths in ([0, 1, 2, 3, GREATEST], [1], [0], [1, 2]):
            for web in bound_webs(12, strengths):
                low, many = least_many(web, narrow_order(web))
                self.assertEqual(low, least(web)[0])
                # All least layings with place 0 up, and the same turned over.
                if many <= 400:
                    self.assertEqual(2 * len(all_least(web, 200)), many)
                else:
                    self.assertIs(refusal(all_least, web, 200), TooMany)

    def test_more_than_twelve_odd_rounds_are_let(self):
        web = with_odd(Web(40, *grid(5, 8)), 1, 28, [1])
        turned = list(range(40))[::-1]
        self.assertEqual(least_many(web), least_many(web, turned))
        columns = [r * 8 + c for c in range(8) for r in range(5)]
        self.assertEqual(least_many(web), least_many(web, columns))

    def test_too_wide(self):
        self.assertIsNone(refusal(least_many, star(8)))
        self.assertIs(refusal(least_many, star(9)), TooWide)
        self.assertIs(refusal(least_many, star(9), None), TooWide)
        self.assertIsNone(refusal(least_many, star(9), list(range(9, -1, -1))))
        self.assertIs(refusal(least_many, Web(40, *grid(4, 10))), TooWide)
        self.assertIsNone(refusal(least_many, Web(40, *grid(4, 10)), [r * 10 + c for c in range(10) for r in range(4)]))

    def test_where_no_order_is_handed_in(self):
        self.assertIsNone(inspect.signature(least_many).parameters["order"].default)

    def test_kinds_and_nothing_changed(self):
        web = grown(4, 9, 18)
        before, order = all_fields(web), Dice(2).mixed(range(9))
        kept = list(order)
        told = least_many(web, order)
        self.assertTrue(is_pair(told))
        self.assertEqual(least_many(web, order), told)
        self.assertEqual((order, all_fields(web)), (kept, before))


if __name__ == "__main__":
    unittest.main()
