"""Points 7.2, 7.3 and 7.4: tight ties, all least layings, steps between them; 0.2 to 0.6 over them."""

import inspect
import itertools
import unittest

from samples import GREATEST, Dice, all_costs, all_fields, bound_webs, broken, cost_of, doubled_ring, grid, grown
from samples import is_number, tried_webs, triangle, with_odd
from spinfloor.allleast import all_least, free_steps, narrow_order, tight_ties
from spinfloor.errors import FloorError, TooMany, TooRough
from spinfloor.fronts import fronts
from spinfloor.layings import unpleased
from spinfloor.least import certain, least
from spinfloor.patches import pieces
from spinfloor.ties import Pull
from spinfloor.webs import Web


def holds_one(rounds, sides):
    return (rounds >> sides[0] & 1) != (rounds >> sides[1] & 1)


def row(many, strength):
    ties = [Pull(place, place + 1, strength) for place in range(many - 1)]
    turns = [[i for i in (place - 1, place) if 0 <= i < many - 1] for place in range(many)]
    return Web(many, ties, turns)


def lows_of(web):
    costs = all_costs(web)
    return [laying for laying in range(0, 2 ** web.many, 2) if costs[laying] == min(costs)]


def steps_gone(web, patch):
    """The pieces of a patch, told without the program."""
    left, found = [place for place in range(web.many) if patch >> place & 1], []
    while left:
        piece, waiting = [], [left[0]]
        while waiting:
            place = waiting.pop()
            if place in left:
                left.remove(place)
                piece.append(place)
                waiting += [tie.two for tie in web.ties if tie.one == place]
                waiting += [tie.one for tie in web.ties if tie.two == place]
        found.append(sum(2 ** place for place in piece))
    return found


class TightTies(unittest.TestCase):
    def test_known(self):
        web = triangle()
        self.assertEqual(tight_ties(web, [(2, 6)]), 1)
        self.assertEqual(tight_ties(web, [(1, 4), (2, 4)]), 2)
        self.assertEqual(tight_ties(web, [(3, 6)]), 0)
        self.assertEqual(tight_ties(web, []), 0)
        self.assertEqual(tight_ties(triangle(3, 3, 3), [(2, 6)]), 7)
        self.assertEqual(tight_ties(triangle(0, 5, 0), []), 5)
        self.assertEqual(tight_ties(triangle(GREATEST, 1, 2), [(1, 2 * GREATEST)]), 1)

    def test_the_same_round_on_both_sides(self):
        web = Web(2, [Pull(0, 1, 0)], [[0], [0]])
        self.assertEqual(tight_ties(web, []), 1)
        self.assertEqual(tight_ties(web, [(1, 4)]), 1)
        self.assertEqual(tight_ties(Web(2, [Pull(0, 1, 2)], [[0], [0]]), [(1, 4)]), 0)

    def test_by_its_words_whoever_wrote_the_paper(self):
        for seed, web in enumerate(tried_webs(60)):
            dice = Dice(seed)
            for times in range(6):
                paper = [(dice.under(2 ** len(web.rounds)), dice.under(5)) for pair in range(dice.under(4))]
                paper += paper[:1]
                told = 0
                for number, (tie, sides) in enumerate(zip(web.ties, web.sides)):
                    if sum(price for rounds, price in paper if holds_one(rounds, sides)) == 2 * tie.strength:
                        told += 2 ** number
                self.assertEqual(tight_ties(web, paper), told)

    def test_which_layings_are_least(self):
        for web in tried_webs():
            costs = all_costs(web)
            paper = least(web)[2]
            tight = tight_ties(web, paper)
            for laying, cost in enumerate(costs):
                off = unpleased(web, laying)
                once = all(
                    sum(holds_one(rounds, sides) for i, sides in enumerate(web.sides) if off >> i & 1) == 1
                    for rounds, price in paper
                )
                self.assertEqual(off & ~tight == 0 and once, cost == min(costs))

    def test_kinds_and_nothing_changed(self):
        web = grown(8, 7, 14)
        paper = least(web)[2]
        before, kept = all_fields(web), list(paper)
        told = tight_ties(web, paper)
        self.assertTrue(is_number(told))
        self.assertEqual(tight_ties(web, paper), told)
        self.assertEqual((all_fields(web), paper), (before, kept))


class AllLeast(unittest.TestCase):
    def test_known(self):
        self.assertEqual(all_least(triangle()), [6])
        self.assertEqual(all_least(triangle(3, 3, 9)), [4, 6])
        self.assertEqual(all_least(triangle(3, 3, 3)), [0, 4, 6])
        self.assertEqual(all_least(triangle(0, 0, 0)), [0, 2, 4, 6])
        self.assertEqual(all_least(row(40, 1)), [0])
        self.assertEqual(all_least(row(40, GREATEST), 1), [0])

    def test_all_layings_gone_through(self):
        for web in tried_webs(150, 8):
            lows = lows_of(web)
            self.assertEqual(all_least(web, 64), lows)
            self.assertEqual(all_least(web, 1000), lows)

    def test_more_and_just_as_many_as_asked_for(self):
        for web in tried_webs(60, 8):
            count = len(lows_of(web))
            self.assertEqual(len(all_least(web, count)), count)
            if count > 1:
                with self.assertRaises(FloorError) as caught:
                    all_least(web, count - 1)
                self.assertIs(type(caught.exception), TooMany)

    def test_sixty_four_where_nothing_is_asked(self):
        self.assertEqual(inspect.signature(all_least).parameters["most"].default, 64)
        self.assertEqual(all_least(row(7, 0)), list(range(0, 128, 2)))
        with self.assertRaises(TooMany):
            all_least(row(8, 0))

    def test_a_thousand(self):
        self.assertEqual(all_least(row(10, 0), 1000), list(range(0, 1024, 2)))
        with self.assertRaises(TooMany):
            all_least(row(11, 0), 1000)
        for many, most in ((40, 1), (40, 1000)):
            with self.assertRaises(TooMany):
                all_least(row(many, 0), most)

    def test_at_the_bounds(self):
        for strengths in ([0, 1, 2, 3, GREATEST], [1], [0], [1, 2], range(1, 90)):
            for web in [*bound_webs(12, strengths), *bound_webs(2, strengths)]:
                worth, laying, paper = least(web)
                try:
                    told = all_least(web, 200)
                except TooMany:
                    self.assertNotEqual(strengths, range(1, 90))
                    continue
                self.assertIn(laying, told)
                self.assertEqual(sorted(set(told)), told)
                for each in told:
                    self.assertTrue(each % 2 == 0 and 0 <= each < 2 ** web.many)
                    self.assertEqual(broken(web, each, paper), "")

    def test_grids_counted_by_their_columns(self):
        # Forty places; how many are least is counted in another way.
        for seed in range(8):
            web = with_odd(Web(40, *grid(5, 8)), seed, 12, [[1], [1, 2], [1, 1, 2, 3]][seed % 3])
            count = self.counted(web, 5, 8)
            self.assertEqual(2 * len(all_least(web, count // 2)), count)
            if count > 2:
                with self.assertRaises(TooMany):
                    all_least(web, count // 2 - 1)

    def counted(self, web, rows, columns):
        """How many of all layings of a grid have the least worth: from one column of it to the next one."""
        lows = {signs: (0, 1) for signs in range(2 ** rows)}
        for column in range(columns):
            places = [r * columns + column for r in range(rows)]
            spread = {signs: sum(2 ** places[r] for r in range(rows) if signs >> r & 1) for signs in lows}
            within = [tie for tie in web.ties if tie.one in places and tie.two in places]
            lows = {
                signs: (low + sum(tie.price(spread[signs]) for tie in within), many)
                for signs, (low, many) in lows.items()
            }
            if column + 1 < columns:
                along = [tie for tie in web.ties if (tie.one in places) != (tie.two in places)]
                along = [tie for tie in along if max(tie.one, tie.two) - min(tie.one, tie.two) == 1]
                along = [tie for tie in along if max(tie.one, tie.two) - 1 in places]
                new = {}
                for signs, then in itertools.product(lows, lows):
                    laying = spread[signs] | spread[then] << 1
                    low = lows[signs][0] + sum(tie.price(laying) for tie in along)
                    best = new.get(then, (low, 0))
                    if low < best[0]:
                        best = (low, 0)
                    if low == best[0]:
                        best = (low, best[1] + lows[signs][1])
                    new[then] = best
                lows = new
        least_worth = min(low for low, many in lows.values())
        self.assertEqual(least_worth, least(web)[0])
        return sum(many for low, many in lows.values() if low == least_worth)

    def test_the_order_in_which_places_are_gone_through_is_narrow(self):
        # On it hangs whether the walk ends: with each place more on a front there can be twice as much to go through.
        for web in [*bound_webs(0), *bound_webs(12, [0])]:
            order = narrow_order(web)
            self.assertEqual(sorted(order), list(range(web.many)))
            self.assertLessEqual(max(bin(front).count("1") for front in fronts(web, order)), 7)

    def test_refusals_in_their_order(self):
        # Fourteen odd rounds and far more least layings than asked for: TooRough goes first.
        for web in bound_webs(14, [0]):
            with self.assertRaises(FloorError) as caught:
                all_least(web, 1)
            self.assertIs(type(caught.exception), TooRough)

    def test_kinds_and_nothing_changed(self):
        for web in tried_webs(30):
            before = all_fields(web)
            told = all_least(web, 1000)
            self.assertTrue(type(told) is list and all(is_number(laying) for laying in told))
            kept = list(told)
            told.append(7)
            self.assertEqual(all_least(web, 1000), kept)
            self.assertEqual(all_fields(web), before)


class FreeSteps(unittest.TestCase):
    def test_known(self):
        web = row(5, 1)
        self.assertEqual(free_steps(web, 0, 0), [])
        self.assertEqual(free_steps(web, 0, 31), [31])
        self.assertEqual(free_steps(web, 9, 18), [27 & 3, 27 & 24])
        self.assertEqual(free_steps(web, 21, 0), [1, 4, 16])
        self.assertEqual(free_steps(web, 0, 21), [1, 4, 16])

    def test_any_two_layings(self):
        for seed, web in enumerate(tried_webs(60)):
            dice = Dice(seed)
            for times in range(8):
                one, two = dice.under(2 ** web.many), dice.under(2 ** web.many)
                told = free_steps(web, one, two)
                self.assertEqual(told, steps_gone(web, one ^ two))
                self.assertEqual(told, pieces(web, one ^ two))
                self.assertEqual(free_steps(web, two, one), told)

    def test_each_step_between_least_layings_is_free(self):
        dice, wide = Dice(5), 0
        for web in tried_webs(80):
            lows = lows_of(web)
            for one, two in itertools.product(lows[:6], [*lows[-6:], *[each ^ 2 ** web.many - 1 for each in lows[:3]]]):
                steps = free_steps(web, one, two)
                wide = max(wide, len(steps))
                for start in (one, two):
                    for chosen in [dice.mixed(steps), dice.mixed(steps)[: dice.under(len(steps) + 1)]]:
                        laying = start
                        for step in chosen:
                            laying ^= step
                            self.assertEqual(cost_of(web, laying), cost_of(web, lows[0]))
                self.assertEqual(one ^ sum(steps), two)
        self.assertGreater(wide, 2)

    def test_at_the_bounds(self):
        dice = Dice(9)
        for web in bound_webs(12, [1]):
            worth, laying, paper = least(web)
            try:
                lows = all_least(web, 200)
            except TooMany:
                continue
            for one, two in itertools.product(lows[:5], lows[-5:]):
                start = one
                for step in dice.mixed(free_steps(web, one, two)):
                    start ^= step
                    self.assertTrue(certain(web, start, paper))
                self.assertEqual(start, two)

    def test_kinds_and_nothing_changed(self):
        web = Web(40, *doubled_ring(40))
        before = all_fields(web)
        told = free_steps(web, 2 ** 40 - 1, 2 ** 20 + 1)
        self.assertTrue(type(told) is list and all(is_number(step) for step in told))
        self.assertEqual(free_steps(web, 2 ** 40 - 1, 2 ** 20 + 1), told)
        self.assertEqual(len(told), 2)
        self.assertEqual(all_fields(web), before)


if __name__ == "__main__":
    unittest.main()
