"""Points 3.1, 3.2 and 3.3: layings, their worths and their unpleased ties; 0.2 to 0.6 over them."""

import unittest

from samples import GREATEST, Dice, all_fields, alike, cost_of, doubled_ring, down, great_webs, grown, small_webs
from spinfloor.errors import FloorError, NoLaying
from spinfloor.layings import laying_of, odd_at, odd_rounds, unpleased, worth
from spinfloor.ties import Pull, Push
from spinfloor.webs import Web

# Rounds [0, 2, 4] and [1, 5, 6, 7, 3]: both darts of tie 3 lie in round 1.
TAILED = Web(4, [Pull(0, 1, 3), Push(1, 2, 4), Push(2, 0, 5), Push(2, 3, 0)], [[0, 2], [0, 1], [1, 2, 3], [3]])
# Rounds [0, 2, 4] and [1, 5, 3], both odd.
ODD = Web(3, [Pull(0, 1, 3), Push(1, 2, 4), Pull(2, 0, GREATEST)], [[0, 2], [0, 1], [1, 2]])
ONE_PULL = Web(2, [Pull(0, 1, 6)], [[0], [0]])
ONE_PUSH = Web(2, [Push(1, 0, GREATEST)], [[0], [0]])
TWO_ALIKE = Web(2, [Pull(0, 1, 6), Push(1, 0, 9)], [[0, 1], [0, 1]])


def whole(web):
    return 2 ** web.many - 1


def some_layings(web, count=12):
    dice = Dice(web.many)
    if web.many <= 6:
        return list(range(2 ** web.many))
    mixed = [sum(2 ** place * dice.under(2) for place in range(web.many)) for times in range(count)]
    return [0, 1, 2 ** (web.many - 1), whole(web)] + mixed


def odd_darts(web, ties, number):
    """Told without the program's words: 1 where an odd number of a round's darts belong to ties of the set."""
    return len([dart for dart in web.rounds[number] if down(ties, dart // 2)]) % 2


def pushes(web):
    return sum(2 ** number for number, tie in enumerate(web.ties) if isinstance(tie, Push))


class Worths(unittest.TestCase):
    def test_unpleased(self):
        self.assertEqual([unpleased(ONE_PULL, laying) for laying in range(4)], [0, 1, 1, 0])
        self.assertEqual([unpleased(ONE_PUSH, laying) for laying in range(4)], [1, 0, 0, 1])
        self.assertEqual([unpleased(TWO_ALIKE, laying) for laying in range(4)], [2, 1, 1, 2])
        self.assertEqual([unpleased(ODD, laying) for laying in range(8)], [2, 7, 1, 4, 4, 1, 7, 2])
        self.assertEqual([unpleased(TAILED, laying) for laying in range(8)], [14, 11, 13, 8, 0, 5, 3, 6])

    def test_worth(self):
        self.assertEqual([worth(ONE_PULL, laying) for laying in range(4)], [0, 6, 6, 0])
        self.assertEqual([worth(ONE_PUSH, laying) for laying in range(4)], [GREATEST, 0, 0, GREATEST])
        self.assertEqual([worth(TWO_ALIKE, laying) for laying in range(4)], [9, 6, 6, 9])
        self.assertEqual([worth(ODD, laying) for laying in range(4)], [4, GREATEST + 7, 3, GREATEST])
        self.assertEqual([worth(TAILED, laying) for laying in range(8)], [9, 7, 8, 0, 0, 8, 7, 9])

    def test_a_tie_of_strength_nought_can_be_unpleased(self):
        self.assertEqual((unpleased(TAILED, 3), worth(TAILED, 3)), (8, 0))

    def test_against_looking(self):
        for web in [*small_webs(), *great_webs()]:
            for laying in some_layings(web):
                told = sum(2 ** i for i, tie in enumerate(web.ties) if alike(laying, tie) == isinstance(tie, Push))
                self.assertEqual(unpleased(web, laying), told)
                self.assertEqual(worth(web, laying), cost_of(web, laying))

    def test_the_greatest_worth(self):
        web = grown(4, 40, 80, [GREATEST])
        self.assertEqual(worth(web, 0) + worth(Web(40, [
            (Pull if tie.wish() else Push)(tie.one, tie.two, GREATEST) for tie in web.ties], web.turns), 0), 80 * GREATEST)

    def test_all_turned_over_the_worth_stays(self):
        for web in [*small_webs(), *great_webs()]:
            for laying in some_layings(web):
                self.assertEqual(worth(web, laying ^ whole(web)), worth(web, laying))
                self.assertEqual(unpleased(web, laying ^ whole(web)), unpleased(web, laying))


class OddRounds(unittest.TestCase):
    def test_known(self):
        self.assertEqual(odd_rounds(ODD), 3)
        self.assertEqual([odd_rounds(web) for web in [ONE_PULL, ONE_PUSH]], [0, 0])
        self.assertEqual(odd_rounds(TWO_ALIKE), 3)

    def test_a_tie_both_of_whose_darts_lie_in_the_round_counts_twice(self):
        # Of round 1's darts four belong to pushes: those of ties 1 and 2, and both of tie 3.
        self.assertEqual(odd_rounds(TAILED), 0)
        self.assertEqual([odd_at(TAILED, 8, number) for number in [0, 1]], [0, 0])
        self.assertEqual([odd_at(TAILED, 9, number) for number in [0, 1]], [1, 1])

    def test_odd_at_known(self):
        for number in [0, 1]:
            self.assertEqual([odd_at(ODD, ties, number) for ties in range(8)], [0, 1, 1, 0, 1, 0, 0, 1])
        self.assertEqual([odd_at(ONE_PUSH, ties, 0) for ties in range(2)], [0, 0])

    def test_odd_at_all_sets(self):
        for web in small_webs(most_ties=7):
            for ties in range(2 ** len(web.ties)):
                for number in range(len(web.rounds)):
                    self.assertEqual(odd_at(web, ties, number), odd_darts(web, ties, number))

    def test_against_looking_and_their_number_is_even(self):
        for web in [*small_webs(count=120), *great_webs()]:
            told = sum(2 ** number for number in range(len(web.rounds)) if odd_darts(web, pushes(web), number))
            self.assertEqual(odd_rounds(web), told)
            self.assertEqual(bin(told).count("1") % 2, 0)

    def test_the_greatest_number(self):
        # Of each two ties with the same ends one pushes; the outermost and the innermost round are even.
        web = Web(40, *doubled_ring(40))
        self.assertEqual(bin(odd_rounds(web)).count("1"), 40)
        self.assertEqual([odd_at(web, 2 ** 80 - 1, number) for number in range(42)], [0] * 42)

    def test_unpleased_ties_in_every_laying(self):
        for web in [*small_webs(), *great_webs()]:
            odd = odd_rounds(web)
            for laying in some_layings(web):
                ties = unpleased(web, laying)
                for number in range(len(web.rounds)):
                    self.assertEqual(odd_at(web, ties, number), down(odd, number))


class LayingOf(unittest.TestCase):
    def least_wrong(self, web, ties):
        for number in range(len(web.rounds)):
            if odd_darts(web, ties, number) != odd_darts(web, pushes(web), number):
                return number
        return None

    def refuses(self, web, ties, at):
        with self.assertRaises(FloorError) as caught:
            laying_of(web, ties)
        self.assertIs(type(caught.exception), NoLaying)
        self.assertEqual(caught.exception.at, at)
        self.assertIs(type(caught.exception.at), int)

    def test_known(self):
        self.assertEqual([laying_of(ODD, ties) for ties in [1, 2, 4, 7]], [2, 0, 4, 6])
        self.assertEqual([laying_of(ONE_PULL, ties) for ties in range(2)], [0, 2])
        self.assertEqual([laying_of(ONE_PUSH, ties) for ties in range(2)], [2, 0])
        self.assertEqual([laying_of(TAILED, ties) for ties in [0, 8, 3, 14]], [4, 12, 6, 0])

    def test_refused_known(self):
        for ties in [0, 3, 5, 6]:
            self.refuses(ODD, ties, 0)
        for ties in [1, 2, 4, 7, 9, 10, 12, 15]:
            self.refuses(TAILED, ties, 0)
        for ties in [0, 3]:
            self.refuses(TWO_ALIKE, ties, 0)

    def test_the_least_round_is_told(self):
        # Three ties with the same ends: rounds [0, 5], [1, 2] and [3, 4].
        web = Web(2, [Pull(0, 1, 1), Pull(0, 1, 1), Pull(0, 1, 1)], [[0, 1, 2], [2, 1, 0]])
        self.assertEqual([laying_of(web, ties) for ties in [0, 7]], [0, 2])
        for ties, at in [(1, 0), (2, 1), (4, 0), (3, 0), (5, 1), (6, 0)]:
            self.refuses(web, ties, at)

    def test_every_laying_comes_back(self):
        for web in [*small_webs(), *great_webs()]:
            for laying in some_layings(web):
                told = laying_of(web, unpleased(web, laying))
                self.assertEqual(told, laying ^ whole(web) if laying % 2 else laying)

    def test_every_set_of_ties(self):
        seen = {}
        for web in small_webs(most_ties=8):
            found = []
            for ties in range(2 ** len(web.ties)):
                at = self.least_wrong(web, ties)
                if at is None:
                    laying = laying_of(web, ties)
                    self.assertEqual((laying % 2, unpleased(web, laying)), (0, ties))
                    found.append(laying)
                else:
                    self.refuses(web, ties, at)
                    seen[at] = True
            self.assertEqual(sorted(found), list(range(0, 2 ** web.many, 2)))
        self.assertGreater(len(seen), 4)

    def test_one_tie_more_or_less_in_the_greatest_webs(self):
        for web in great_webs():
            ties = unpleased(web, 5)
            for number, (one, two) in enumerate(web.sides):
                if one == two:
                    laying_of(web, ties ^ 2 ** number)
                else:
                    self.refuses(web, ties ^ 2 ** number, min(one, two))


class Staying(unittest.TestCase):
    def test_webs_stay_and_the_same_is_told_each_time(self):
        for web in [TAILED, ODD, *small_webs()]:
            ahead = repr(all_fields(web))
            told = []
            for turn in range(2):
                ties = unpleased(web, 2)
                told.append((
                    ties, worth(web, 2), odd_rounds(web), odd_at(web, ties, 0), laying_of(web, ties),
                    unpleased(web, 1), worth(web, 1),
                ))
            self.assertEqual(told[0], told[1])
            self.assertEqual(repr(all_fields(web)), ahead)

    def test_kinds(self):
        for web in [TAILED, ODD, ONE_PULL, ONE_PUSH, *small_webs()]:
            for laying in [0, 1, 2, 3]:
                ties = unpleased(web, laying)
                told = [ties, worth(web, laying), odd_rounds(web), odd_at(web, ties, 0), laying_of(web, ties)]
                self.assertEqual({type(value) for value in told}, {int})


if __name__ == "__main__":
    unittest.main()
