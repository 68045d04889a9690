"""Points 6.3 and 6.4: other pulls of a tie, and its roof; 0.2 to 0.6 over them."""

import unittest

from samples import GREATEST, alike, all_fields, bound_webs, cost_of, doubled_ring, fields, grid, is_number, is_pair
from samples import odd_ones, tried_webs, triangle, with_odd
from spinfloor.errors import FloorError, TooRough
from spinfloor.least import least
from spinfloor.roofs import at_pull, roof, with_pull
from spinfloor.ties import Pull, Push
from spinfloor.webs import Web

PULLS = [0, 1, -1, 2, -2, 7, -7, GREATEST, -GREATEST]


def paid(pull, ends_alike):
    if ends_alike:
        return -pull if pull < 0 else 0
    return pull if pull > 0 else 0


def roof_gone_through(web, number):
    tie = web.ties[number]
    sums = {True: [], False: []}
    for laying in range(2 ** web.many):
        own = tie.strength if alike(laying, tie) == isinstance(tie, Push) else 0
        sums[alike(laying, tie)].append(cost_of(web, laying) - own)
    return (min(sums[True]), min(sums[False]))


def bridge():
    """Two triangles, the tie 3 between them has the same round on both its sides."""
    ties = [
        Pull(0, 1, 3), Pull(1, 2, 4), Push(0, 2, 5), Push(2, 3, 9), Pull(3, 4, 2), Pull(4, 5, 6), Push(3, 5, 8),
    ]
    return Web(6, ties, [[0, 2], [0, 1], [1, 2, 3], [3, 4, 6], [4, 5], [5, 6]])


class WithPull(unittest.TestCase):
    def test_the_tie_has_the_pull(self):
        for web in tried_webs(20):
            for number, tie in enumerate(web.ties):
                for pull in PULLS:
                    made = with_pull(web, number, pull)
                    told = fields(web.ties)
                    told[number] = (Push if pull < 0 else Pull, tie.one, tie.two, abs(pull))
                    self.assertEqual(fields(made.ties), told)
                    self.assertEqual((made.many, made.turns), (web.many, web.turns))
                    self.assertEqual((made.rounds, made.sides), (web.rounds, web.sides))

    def test_a_pull_of_nought(self):
        made = with_pull(triangle(), 2, 0)
        self.assertIs(type(made.ties[2]), Pull)
        self.assertEqual((made.ties[2].one, made.ties[2].two, made.ties[2].strength), (0, 2, 0))

    def test_it_is_a_web(self):
        self.assertIs(type(with_pull(triangle(), 0, -4)), Web)
        self.assertEqual(least(with_pull(triangle(), 0, -4))[0], 0)

    def test_at_the_bounds(self):
        for web in bound_webs(12):
            for number in (0, len(web.ties) - 1):
                made = with_pull(web, number, -GREATEST)
                self.assertEqual(made.ties[number].signed(), -GREATEST)
                self.assertEqual(len(made.ties), len(web.ties))

    def test_nothing_is_changed_and_nothing_shared(self):
        web = triangle()
        before = all_fields(web)
        made = with_pull(web, 1, -9)
        self.assertEqual(all_fields(web), before)
        made.turns[0].append(7)
        made.ties.append(None)
        self.assertEqual(all_fields(web), before)
        self.assertEqual(all_fields(with_pull(web, 1, -9)), all_fields(with_pull(web, 1, -9)))


class Roof(unittest.TestCase):
    def test_known(self):
        web = triangle()
        self.assertEqual([roof(web, number) for number in range(3)], [(4, 0), (3, 0), (0, 3)])
        self.assertEqual(roof(Web(2, [Push(0, 1, 5)], [[0], [0]]), 0), (0, 0))
        self.assertEqual(roof(Web(2, [Pull(0, 1, 5), Pull(1, 0, 6)], [[0, 1], [0, 1]]), 0), (0, 6))
        self.assertEqual(roof(Web(2, [Push(0, 1, 5), Push(1, 0, GREATEST)], [[0, 1], [0, 1]]), 0), (GREATEST, 0))

    def test_all_layings_gone_through(self):
        for web in tried_webs(90):
            for number in range(len(web.ties)):
                self.assertEqual(roof(web, number), roof_gone_through(web, number))

    def test_a_tie_whose_two_sides_are_the_same_round(self):
        web = bridge()
        self.assertEqual(web.sides[3][0], web.sides[3][1])
        self.assertEqual(roof(web, 3), (5, 5))
        self.assertEqual(roof(web, 3), roof_gone_through(web, 3))
        for pull in PULLS:
            self.assertEqual(least(with_pull(web, 3, pull))[0], 5)

    def test_it_does_not_hang_on_the_tie_itself(self):
        for web in tried_webs(40):
            for number in range(len(web.ties)):
                pair = roof(web, number)
                for pull in PULLS:
                    self.assertEqual(roof(with_pull(web, number, pull), number), pair)

    def test_it_tells_the_least_worth_with_other_pulls(self):
        for web in tried_webs(40):
            for number in range(len(web.ties)):
                pair = roof(web, number)
                for pull in PULLS:
                    self.assertEqual(at_pull(pair, pull), least(with_pull(web, number, pull))[0])

    def test_at_the_bounds(self):
        for count in (0, 10, 12):
            for web in bound_webs(count):
                for number in range(0, len(web.ties), 11):
                    pair = roof(web, number)
                    for pull in PULLS:
                        other = with_pull(web, number, pull)
                        if len(odd_ones(other)) <= 12:
                            self.assertEqual(at_pull(pair, pull), least(other)[0])

    def test_twelve_odd_rounds_with_fourteen_marks(self):
        # The two rounds at the tie's sides are even: turned over with the odd ones they are fourteen.
        web = with_odd(Web(40, *grid(5, 8)), 3, 12)
        odd = odd_ones(web)
        even = [i for i, sides in enumerate(web.sides) if len(set(sides)) == 2 and not set(sides) & set(odd)]
        number = [i for i in even if isinstance(web.ties[i], Pull)][0]
        tie = web.ties[number]
        other = -tie.signed() or -1
        with self.assertRaises(TooRough):
            least(with_pull(web, number, other))
        self.assertEqual(at_pull(roof(web, number), tie.signed()), least(web)[0])

    def test_more_than_twelve_odd_rounds(self):
        for web in bound_webs(14):
            for number in (0, len(web.ties) // 2, len(web.ties) - 1):
                with self.assertRaises(FloorError) as caught:
                    roof(web, number)
                self.assertIs(type(caught.exception), TooRough)

    def test_the_web_as_it_stands_is_looked_at(self):
        # Fourteen odd rounds, but twelve with the tie's other kind: refused all the same.
        web = with_odd(Web(40, *doubled_ring(40)), 5, 14, [1, 2])
        odd = odd_ones(web)
        between = [i for i, sides in enumerate(web.sides) if set(sides) <= set(odd)]
        self.assertTrue(between)
        for number in between:
            other = with_pull(web, number, -web.ties[number].signed())
            self.assertEqual(len(odd_ones(other)), 12)
            self.assertEqual(at_pull(roof(other, number), other.ties[number].signed()), least(other)[0])
            with self.assertRaises(TooRough):
                roof(web, number)

    def test_kinds_and_nothing_changed(self):
        for web in [*tried_webs(20), *bound_webs(12)]:
            before = all_fields(web)
            told = roof(web, 0)
            self.assertTrue(is_pair(told))
            self.assertEqual(roof(web, 0), told)
            self.assertEqual(all_fields(web), before)


class AtPull(unittest.TestCase):
    def test_known(self):
        self.assertEqual([at_pull((3, 5), pull) for pull in (0, 1, 2, 3, 9)], [3, 3, 3, 3, 3])
        self.assertEqual([at_pull((3, 5), pull) for pull in (-1, -2, -3, -9)], [4, 5, 5, 5])
        self.assertEqual([at_pull((5, 3), pull) for pull in (0, 1, 2, 3, 9)], [3, 4, 5, 5, 5])
        self.assertEqual([at_pull((5, 3), pull) for pull in (-1, -9)], [3, 3])
        self.assertEqual(at_pull((0, 0), GREATEST), 0)
        self.assertEqual(at_pull((GREATEST, 0), GREATEST), GREATEST)
        self.assertEqual(at_pull((0, 81 * GREATEST), -GREATEST), GREATEST)

    def test_by_its_words(self):
        for one in (0, 1, 4, 9, 10 ** 32):
            for two in (0, 1, 4, 9, 10 ** 32):
                for pull in PULLS:
                    told = at_pull((one, two), pull)
                    self.assertEqual(told, min(one + paid(pull, True), two + paid(pull, False)))
                    self.assertTrue(is_number(told))


if __name__ == "__main__":
    unittest.main()
