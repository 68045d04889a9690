"""Point 9.4, with the tables of 9.3: tables joined, and their powers; 0.2 to 0.6 over them."""

import copy
import unittest

from samples import Dice, is_pair
from spinfloor.powers import table_power, tables_joined

LOWS = [0, 1, 1, 2, 3, -1, -4, 10 ** 60, -10 ** 60]
MANYS = [0, 1, 1, 2, 3, 7, 10 ** 9, 10 ** 60]
MODULI = [2, 3, 10, 998244353, 10 ** 9]


def some_table(dice, size, lows=LOWS, manys=MANYS):
    return [[(dice.one_of(lows), dice.one_of(manys)) for then in range(size)] for signs in range(size)]


def joined_by_words(one, two, modulus):
    size = len(one)
    told = []
    for s in range(size):
        told.append([])
        for t in range(size):
            low = min(one[s][u][0] + two[u][t][0] for u in range(size))
            ways = [u for u in range(size) if one[s][u][0] + two[u][t][0] == low]
            told[s].append((low, sum(one[s][u][1] * two[u][t][1] for u in ways) % modulus))
    return told


def by_modulus(table, modulus):
    return [[(low, many % modulus) for low, many in row] for row in table]


def again_and_again(table, times, modulus):
    power = by_modulus(table, modulus)
    for more in range(times - 1):
        power = joined_by_words(power, table, modulus)
    return power


class Joined(unittest.TestCase):
    def test_known(self):
        one = [[(1, 2), (3, 1)], [(0, 1), (5, 4)]]
        two = [[(4, 3), (0, 1)], [(2, 5), (7, 1)]]
        # From 0 to 0 both ways cost 5: 2 * 3 and 1 * 5 are counted together.
        self.assertEqual(tables_joined(one, two, 100), [[(5, 11), (1, 2)], [(4, 3), (0, 1)]])
        self.assertEqual(tables_joined(one, two, 2), [[(5, 1), (1, 0)], [(4, 1), (0, 1)]])
        self.assertEqual(tables_joined([[(-3, 4)]], [[(2, 5)]], 7), [[(-1, 6)]])

    def test_a_many_of_nought_counts_by_its_low(self):
        one = [[(0, 0), (1, 5)], [(0, 0), (1, 5)]]
        two = [[(0, 3), (0, 3)], [(0, 3), (0, 3)]]
        self.assertEqual(tables_joined(one, two, 10), [[(0, 0), (0, 0)], [(0, 0), (0, 0)]])

    def test_by_its_words(self):
        for seed in range(80):
            dice = Dice(seed)
            size = 1 + seed % 8
            lows = LOWS if seed % 2 else [0, 1, 2]
            one, two = some_table(dice, size, lows), some_table(dice, size, lows)
            modulus = MODULI[seed % 5]
            self.assertEqual(tables_joined(one, two, modulus), joined_by_words(one, two, modulus))

    def test_kinds_and_nothing_changed(self):
        dice = Dice(3)
        one, two = some_table(dice, 4), some_table(dice, 4)
        kept = copy.deepcopy((one, two))
        told = tables_joined(one, two, 1000)
        self.assertTrue(type(told) is list and all(type(row) is list for row in told))
        self.assertTrue(all(is_pair(pair) for row in told for pair in row))
        answer = copy.deepcopy(told)
        told[0].clear()
        self.assertEqual(tables_joined(one, two, 1000), answer)
        self.assertEqual((one, two), kept)


class Power(unittest.TestCase):
    def test_the_power_one(self):
        table = [[(1, 10 ** 60), (-10 ** 60, 2)], [(5, 3), (10 ** 60, 0)]]
        self.assertEqual(table_power(table, 1, 2), [[(1, 0), (-10 ** 60, 0)], [(5, 1), (10 ** 60, 0)]])
        self.assertEqual(table_power(table, 1, 7), by_modulus(table, 7))
        for seed in range(24):
            table = some_table(Dice(seed), 1 + seed % 8)
            self.assertEqual(table_power(table, 1, MODULI[seed % 5]), by_modulus(table, MODULI[seed % 5]))

    def test_again_and_again(self):
        for seed in range(32):
            size = 1 + seed % 8
            table = some_table(Dice(100 + seed), size, LOWS if seed % 2 else [0, 1, 2])
            modulus = MODULI[seed % 5]
            for times in range(1, 14):
                self.assertEqual(table_power(table, times, modulus), again_and_again(table, times, modulus))

    def test_one_entry(self):
        for low in (0, 1, -3, 10 ** 60, -10 ** 60):
            for many in (0, 1, 2, 10 ** 60):
                for modulus in (2, 97, 10 ** 9):
                    for times in (1, 2, 3, 60, 61, 2 ** 40, 10 ** 18 - 1, 10 ** 18):
                        told = table_power([[(low, many)]], times, modulus)
                        self.assertEqual(told, [[(low * times, pow(many, times, modulus))]])

    def test_the_greatest_power(self):
        # Taken to the power ten again and again, each time by plain joining.
        for seed in range(8):
            table = some_table(Dice(200 + seed), 1 + seed, [0, 1, 2, 5], [0, 1, 2, 3, 10 ** 60])
            power = by_modulus(table, 10 ** 9)
            for tens in range(18):
                power = again_and_again(power, 10, 10 ** 9)
            self.assertEqual(table_power(table, 10 ** 18, 10 ** 9), power)

    def test_kinds_and_nothing_changed(self):
        table = some_table(Dice(5), 3)
        kept = copy.deepcopy(table)
        for times in (1, 2, 3, 10 ** 18):
            told = table_power(table, times, 10 ** 9)
            self.assertTrue(type(told) is list and all(type(row) is list for row in told))
            self.assertTrue(all(is_pair(pair) for row in told for pair in row))
            answer = copy.deepcopy(told)
            told[0].clear()
            self.assertEqual(table_power(table, times, 10 ** 9), answer)
            self.assertEqual(table, kept)


if __name__ == "__main__":
    unittest.main()
