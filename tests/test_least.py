"""Points 6.1 and 6.2: a least laying with its paper, and papers whoever wrote them; 0.2 to 0.6 over them."""

import itertools
import unittest

from samples import GREATEST, all_costs, all_fields, bound_webs, broken, cost_of, doubled_ring, grid, grown, is_number
from samples import is_pair, odd_ones, tried_webs, triangle, with_odd
from spinfloor.errors import FloorError, TooRough
from spinfloor.hills import hills
from spinfloor.layings import laying_of, odd_rounds
from spinfloor.least import certain, least
from spinfloor.other import links_of
from spinfloor.pairing import paired
from spinfloor.ties import Pull, Push
from spinfloor.webs import Web


def two_places(signed):
    """Two places with parallel ties: a ring of rounds."""
    ties = [(Pull if each >= 0 else Push)(0, 1, abs(each)) for each in signed]
    numbers = list(range(len(ties)))
    return Web(2, ties, [numbers, numbers[::-1]])


class Least(unittest.TestCase):
    def test_known(self):
        self.assertEqual(least(triangle()), (3, 6, [(2, 6)]))
        self.assertEqual(least(triangle(5, 4, 3))[:2], (3, 0))
        self.assertEqual(least(triangle(5, 3, 4))[:2], (3, 4))
        self.assertEqual(least(triangle(GREATEST, GREATEST, GREATEST))[0], GREATEST)

    def test_no_odd_round(self):
        even = Web(3, [Pull(0, 1, 3), Push(1, 2, 4), Push(0, 2, 5)], [[0, 2], [0, 1], [1, 2]])
        self.assertEqual(least(even), (0, 4, []))
        self.assertEqual(least(Web(2, [Push(1, 0, 7)], [[0], [0]])), (0, 2, []))
        self.assertEqual(least(Web(2, [Pull(1, 0, 0)], [[0], [0]])), (0, 0, []))
        for web in bound_webs(0):
            told = least(web)
            self.assertEqual((told[0], told[2]), (0, []))
            self.assertEqual(cost_of(web, told[1]), 0)

    def test_all_layings_gone_through(self):
        for web in tried_webs():
            costs = all_costs(web)
            worth, laying, paper = least(web)
            self.assertEqual(worth, min(costs))
            self.assertEqual(costs[laying], worth)
            self.assertEqual(laying % 2, 0)
            self.assertEqual(broken(web, laying, paper), "")

    def test_at_the_bounds(self):
        for count in (2, 12):
            for strengths in ([0, 1, 2, 3, GREATEST], [1], [0], [GREATEST], range(1, 90)):
                for web in bound_webs(count, strengths):
                    self.assertEqual(len(odd_ones(web)), count)
                    worth, laying, paper = least(web)
                    self.assertEqual(cost_of(web, laying), worth)
                    self.assertTrue(laying % 2 == 0 and 0 <= laying < 2 ** web.many)
                    # No laying has a less worth, since the paper's sentences hold.
                    self.assertEqual(broken(web, laying, paper), "")

    def test_a_paper_is_hills(self):
        for web in [*tried_webs(40), *bound_webs(12)]:
            odd = sum(2 ** number for number in odd_ones(web))
            paper = least(web)[2]
            self.assertEqual(len({rounds for rounds, price in paper}), len(paper))
            for one, two in itertools.combinations([rounds for rounds, price in paper], 2):
                self.assertIn(one & two, (0, one, two))
            for rounds, price in paper:
                self.assertEqual(bin(rounds & odd).count("1") % 2, 1)
                self.assertGreaterEqual(price, 1)

    def test_more_than_twelve_odd_rounds(self):
        for web in bound_webs(14):
            with self.assertRaises(TooRough):
                least(web)
        for count in (16, 30, 40):
            with self.assertRaises(TooRough):
                least(with_odd(Web(40, *doubled_ring(40)), count, count))
        # Fourteen odd rounds between two places alone, and twelve.
        self.assertEqual(least(two_places([1, -1] * 6))[0], 6)
        with self.assertRaises(TooRough):
            least(two_places([1, -1] * 7))

    def test_the_refusal_is_its_own(self):
        with self.assertRaises(FloorError) as caught:
            least(two_places([1, -1] * 7))
        self.assertIs(type(caught.exception), TooRough)

    def test_kinds(self):
        for web in [*tried_webs(30), *bound_webs(12)]:
            told = least(web)
            self.assertTrue(type(told) is tuple and len(told) == 3 and type(told[2]) is list)
            self.assertTrue(is_number(told[0]) and is_number(told[1]))
            self.assertTrue(all(is_pair(pair) for pair in told[2]))

    def test_nothing_is_changed_and_the_answer_stays(self):
        for web in [*tried_webs(30), *bound_webs(12)]:
            before = all_fields(web)
            first = least(web)
            kept = (first[0], first[1], list(first[2]))
            first[2].append((1, 1))
            self.assertEqual(least(web), kept)
            self.assertEqual(all_fields(web), before)


class Certain(unittest.TestCase):
    def test_just_the_least_layings_are_shown(self):
        for web in tried_webs():
            costs = all_costs(web)
            paper = least(web)[2]
            for laying, cost in enumerate(costs):
                # Place 0 may be down.
                self.assertIs(certain(web, laying, paper), cost == min(costs))

    def test_each_sentence_broken_alone(self):
        webs = [triangle(1, 2, 2), two_places([1, -1, 1]), two_places([2, -1, 0]), two_places([2, 1])]
        seen = set()
        for web in webs:
            pairs = list(itertools.product(range(-1, 2 ** len(web.rounds) + 2), range(-1, 5)))
            papers = [[]] + [[pair] for pair in pairs] + [list(two) for two in itertools.product(pairs, pairs[::3])]
            for paper, laying in itertools.product(papers, (0, 1, 2)):
                letters = broken(web, laying, paper)
                seen.add(letters)
                self.assertIs(certain(web, laying, paper), letters == "", (paper, laying))
        self.assertLessEqual({"", "b", "c", "d"}, seen)

    def test_known_wrong_papers(self):
        web = triangle()
        self.assertIs(certain(web, 6, [(2, 6)]), True)
        self.assertIs(certain(web, 1, [(2, 6)]), True)
        self.assertIs(certain(web, 6, [(1, 6)]), True)
        self.assertIs(certain(web, 6, [(1, 1), (2, 2), (2, 2), (1, 1)]), True)
        wrong = [
            [], [(2, 5)], [(2, 7)], [(2, 8)], [(3, 6)], [(0, 6)], [(2, 6), (2, 0)], [(2, 7), (2, -1)], [(6, 6)],
            [(4, 6)], [(-2, 6)], [(-1, 6)], [(2 ** 80 + 2, 6)], [(2, 6), (1, 6)],
        ]
        for paper in wrong:
            self.assertIs(certain(web, 6, paper), False, paper)
        # A laying of another worth, with the paper for its own worth: some link is paid too much.
        self.assertIs(certain(web, 4, [(2, 6)]), False)
        self.assertIs(certain(web, 4, [(2, 8)]), False)

    def test_at_the_bounds(self):
        for web in bound_webs(12):
            worth, laying, paper = least(web)
            everyone = 2 ** web.many - 1
            self.assertIs(certain(web, laying, paper), True)
            self.assertIs(certain(web, laying ^ everyone, paper), True)
            for place in range(0, web.many, 7):
                other = laying ^ 2 ** place
                self.assertIs(certain(web, other, paper), cost_of(web, other) == worth)
            for left_out in range(len(paper)):
                rest = paper[:left_out] + paper[left_out + 1:]
                self.assertIs(certain(web, laying, rest), False)
            if paper:
                rounds, price = paper[0]
                self.assertIs(certain(web, laying, [(rounds, price + 1), *paper[1:]]), False)
                self.assertIs(certain(web, laying, [(rounds + 2 ** len(web.rounds), price), *paper[1:]]), False)
                self.assertIs(certain(web, laying, paper[::-1]), True)

    def test_any_number_of_odd_rounds(self):
        for web in bound_webs(14):
            asked = (len(web.rounds), links_of(web), odd_rounds(web))
            used = paired(*asked)[1]
            self.assertIs(certain(web, laying_of(web, used), hills(*asked)), True)
            self.assertIs(certain(web, laying_of(web, used), [(1, 1)]), False)
        # Forty odd rounds: where all strengths are nought the empty paper does.
        rough = with_odd(Web(40, *doubled_ring(40)), 1, 40, [0])
        self.assertIs(certain(rough, 5, []), True)
        self.assertIs(certain(with_odd(Web(40, *grid(5, 8)), 1, 20, [1]), 5, []), False)

    def test_nothing_is_changed(self):
        web = grown(3, 6, 12)
        paper = least(web)[2]
        before, kept = all_fields(web), list(paper)
        for times in range(2):
            self.assertIs(certain(web, least(web)[1], paper), True)
        self.assertEqual((all_fields(web), paper), (before, kept))


if __name__ == "__main__":
    unittest.main()
