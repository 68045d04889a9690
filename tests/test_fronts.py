"""Point 8.1: orders of the places and the fronts behind them; 0.2 to 0.6 over them."""

import inspect
import itertools
import unittest

from samples import Dice, all_fields, bound_webs, grid, is_number, tried_webs, triangle
from spinfloor.errors import BadOrder, FloorError
from spinfloor.fronts import fronts
from spinfloor.webs import Web


def by_its_words(web, order):
    told = []
    for count in range(web.many + 1):
        first = order[:count]
        front = 0
        for place in first:
            ends = [(tie.one, tie.two) for tie in web.ties]
            if any(place in pair and not set(pair) <= set(first) for pair in ends):
                front += 2 ** place
        told.append(front)
    return told


class Fronts(unittest.TestCase):
    def test_known(self):
        web = triangle()
        self.assertEqual(fronts(web), [0, 1, 3, 0])
        self.assertEqual(fronts(web, None), [0, 1, 3, 0])
        self.assertEqual(fronts(web, [2, 0, 1]), [0, 4, 5, 0])
        strip = Web(6, *grid(2, 3))
        self.assertEqual(fronts(strip), [0, 1, 3, 7, 14, 20, 0])
        self.assertEqual(fronts(strip, [0, 3, 1, 4, 2, 5]), [0, 1, 9, 10, 18, 20, 0])

    def test_by_its_words(self):
        for seed, web in enumerate([*tried_webs(60), *bound_webs(0)]):
            places = list(range(web.many))
            for order in (places, places[::-1], Dice(seed).mixed(places), Dice(seed + 99).mixed(places)):
                told = fronts(web, order)
                self.assertEqual(told, by_its_words(web, order))
                self.assertEqual((len(told), told[0], told[-1]), (web.many + 1, 0, 0))

    def test_where_none_is_handed_in(self):
        self.assertIsNone(inspect.signature(fronts).parameters["order"].default)
        for web in tried_webs(20):
            self.assertEqual(fronts(web), by_its_words(web, list(range(web.many))))
            self.assertEqual(fronts(web, None), fronts(web))

    def test_all_lists_that_are_no_order(self):
        web = triangle()
        right = list(itertools.permutations(range(3)))
        for length in range(5):
            for numbers in itertools.product(range(-1, 4), repeat=length):
                if numbers in right:
                    self.assertEqual(fronts(web, list(numbers)), by_its_words(web, list(numbers)))
                else:
                    with self.assertRaises(FloorError) as caught:
                        fronts(web, list(numbers))
                    self.assertIs(type(caught.exception), BadOrder)

    def test_lists_that_are_no_order_at_the_bounds(self):
        web = Web(40, *grid(5, 8))
        places = list(range(40))
        wrong = [
            [], places[:-1], places[1:], places + [40], places + [39], places + [0], places[:-1] + [0],
            places[:-1] + [40], places[:-1] + [-1], [-40] + places[1:], [10 ** 30] + places[1:], list(range(1, 41)),
            places + places, [-place for place in places],
        ]
        for order in wrong:
            with self.assertRaises(BadOrder):
                fronts(web, order)

    def test_kinds_and_nothing_changed(self):
        for web in tried_webs(20):
            before = all_fields(web)
            order = Dice(web.many).mixed(range(web.many))
            kept = list(order)
            told = fronts(web, order)
            self.assertTrue(type(told) is list and all(is_number(front) for front in told))
            answer = list(told)
            told.append(5)
            self.assertEqual(fronts(web, order), answer)
            self.assertEqual((order, all_fields(web)), (kept, before))


if __name__ == "__main__":
    unittest.main()
