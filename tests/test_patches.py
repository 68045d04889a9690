"""Points 3.4 and 3.5: patches; 0.2 to 0.6 over them."""

import unittest

from samples import GREATEST, Dice, all_fields, cost_of, doubled_ring, down, great_webs, grid, small_webs
from spinfloor.layings import unpleased, worth
from spinfloor.patches import gain, pieces, rim
from spinfloor.ties import Pull, Push
from spinfloor.webs import Web

TAILED = Web(4, [Pull(0, 1, 3), Push(1, 2, 4), Push(2, 0, GREATEST), Pull(2, 3, 0)], [[0, 2], [0, 1], [1, 2, 3], [3]])
ONE_TIE = Web(2, [Push(1, 0, 7)], [[0], [0]])
TWO_ALIKE = Web(2, [Pull(0, 1, 6), Push(1, 0, 9)], [[0, 1], [0, 1]])
GRID = Web(9, *grid(3, 3))


def some_masks(web, count=14):
    dice = Dice(len(web.ties))
    if web.many <= 5:
        return list(range(2 ** web.many))
    mixed = [sum(2 ** place * dice.under(2) for place in range(web.many)) for times in range(count)]
    return [0, 1, 2 ** (web.many - 1), 2 ** web.many - 1] + mixed


class Rims(unittest.TestCase):
    def test_known(self):
        self.assertEqual([rim(ONE_TIE, patch) for patch in range(4)], [0, 1, 1, 0])
        self.assertEqual([rim(TWO_ALIKE, patch) for patch in range(4)], [0, 3, 3, 0])
        self.assertEqual([rim(TAILED, patch) for patch in [0, 1, 2, 4, 8, 3, 12, 11, 15]], [0, 5, 3, 14, 8, 6, 6, 14, 0])

    def test_empty_and_whole(self):
        for web in [*small_webs(), *great_webs()]:
            self.assertEqual((rim(web, 0), rim(web, 2 ** web.many - 1)), (0, 0))

    def test_against_looking(self):
        for web in [*small_webs(), *great_webs()]:
            for patch in some_masks(web):
                told = sum(2 ** i for i, tie in enumerate(web.ties) if down(patch, tie.one) != down(patch, tie.two))
                self.assertEqual(rim(web, patch), told)


class Gains(unittest.TestCase):
    def test_known(self):
        self.assertEqual([gain(ONE_TIE, laying, 1) for laying in range(4)], [7, -7, -7, 7])
        self.assertEqual([gain(TWO_ALIKE, laying, 2) for laying in range(4)], [3, -3, -3, 3])
        self.assertEqual(gain(TAILED, 0, 4), GREATEST + 4)
        self.assertEqual(gain(TAILED, 4, 4), -GREATEST - 4)
        self.assertEqual(gain(TAILED, 4, 1), -GREATEST - 3)

    def test_a_rim_of_strength_nought(self):
        self.assertEqual([gain(TAILED, laying, 8) for laying in range(16)], [0] * 16)

    def test_empty_and_whole(self):
        for web in [*small_webs(), *great_webs()]:
            for laying in some_masks(web):
                self.assertEqual((gain(web, laying, 0), gain(web, laying, 2 ** web.many - 1)), (0, 0))

    def test_against_both_ways_of_the_document(self):
        for web in [*small_webs(most_places=5), *great_webs()]:
            for laying in some_masks(web):
                for patch in some_masks(web):
                    told = gain(web, laying, patch)
                    self.assertEqual(told, cost_of(web, laying) - cost_of(web, laying ^ patch))
                    self.assertEqual(told, worth(web, laying) - worth(web, laying ^ patch))
                    edge, bad = rim(web, patch), unpleased(web, laying)
                    self.assertEqual(told, sum(
                        tie.strength if down(bad, i) else -tie.strength for i, tie in enumerate(web.ties) if down(edge, i)))


class Pieces(unittest.TestCase):
    def test_known(self):
        self.assertEqual([pieces(ONE_TIE, patch) for patch in range(4)], [[], [1], [2], [3]])
        self.assertEqual(pieces(TAILED, 11), [3, 8])
        self.assertEqual(pieces(TAILED, 13), [13])
        self.assertEqual(pieces(TAILED, 10), [2, 8])

    def test_grid(self):
        # The corners and the middle touch by no tie; the rest is one piece without its middle, too.
        self.assertEqual(pieces(GRID, 0b101010101), [1, 4, 16, 64, 256])
        self.assertEqual(pieces(GRID, 0b111101111), [0b111101111])
        self.assertEqual(pieces(GRID, 0b111000111), [0b111, 0b111000000])
        self.assertEqual(pieces(GRID, 0b100010011), [0b000010011, 0b100000000])

    def test_the_order_of_the_least_places(self):
        # The greatest place belongs to the first piece.
        web = Web(40, *doubled_ring(40))
        self.assertEqual(pieces(web, 2 ** 39 + 1 + 2 ** 5 + 2 ** 4 + 2 ** 20), [2 ** 39 + 1, 2 ** 5 + 2 ** 4, 2 ** 20])

    def test_a_row_by_descending_places(self):
        ties = [Pull(p, p + 1, 1) for p in reversed(range(39))]
        web = Web(40, ties, [[38], *[[39 - p, 38 - p] for p in range(1, 39)], [0]])
        self.assertEqual(pieces(web, 2 ** 40 - 1), [2 ** 40 - 1])
        self.assertEqual(pieces(web, 2 ** 40 - 1 - 2 ** 17), [2 ** 17 - 1, 2 ** 40 - 2 ** 18])

    def test_empty_and_whole(self):
        for web in [*small_webs(), *great_webs()]:
            self.assertEqual(pieces(web, 0), [])
            self.assertEqual(pieces(web, 2 ** web.many - 1), [2 ** web.many - 1])

    def test_against_joining_labels(self):
        for web in [*small_webs(), *great_webs()]:
            for patch in some_masks(web):
                label = {place: place for place in range(web.many) if down(patch, place)}
                for times in range(web.many):
                    for tie in web.ties:
                        if tie.one in label and tie.two in label:
                            label[tie.one] = label[tie.two] = min(label[tie.one], label[tie.two])
                told = [sum(2 ** place for place in label if label[place] == least) for least in sorted(set(label.values()))]
                self.assertEqual(pieces(web, patch), told)


class Staying(unittest.TestCase):
    def test_webs_stay_and_the_same_is_told_each_time(self):
        for web in [TAILED, GRID, *small_webs()]:
            ahead = repr(all_fields(web))
            told = [(rim(web, 3), gain(web, 1, 2), pieces(web, 3)) for turn in range(2)]
            self.assertEqual(told[0], told[1])
            self.assertEqual(repr(all_fields(web)), ahead)

    def test_what_is_told_is_the_askers_own(self):
        pieces(GRID, 5).append(99)
        pieces(GRID, 0).append(99)
        self.assertEqual((pieces(GRID, 5), pieces(GRID, 0)), ([1, 4], []))

    def test_kinds(self):
        for web in [TAILED, ONE_TIE, *small_webs()]:
            for patch in range(4):
                told = pieces(web, patch)
                self.assertIs(type(told), list)
                self.assertEqual({type(value) for value in [rim(web, patch), gain(web, 1, patch)] + told}, {int})


if __name__ == "__main__":
    unittest.main()
