"""Points 9.1, 9.2, 9.3 and 9.5: step tables and strips of any length; 0.2 to 0.6 over them."""

import copy
import itertools
import unittest

from samples import GREATEST, is_pair, paid, patterns, refusal, strip_cost, strip_costs, wrong_patterns
from spinfloor.errors import BadStrip
from spinfloor.powers import tables_joined
from spinfloor.strips import step_table, strip_least

MOST = 10 ** 18
LAST = 10 ** 9
ONE_ROW = [([], [1])]


def step_by_words(pattern):
    rows = len(pattern[0][1])
    every = range(2 ** rows)
    own = [
        sum(paid(signed, (s >> r & 1) != (s >> r + 1 & 1)) for r, signed in enumerate(pattern[0][0])) for s in every
    ]
    told = []
    for s in every:
        told.append([])
        for t in every:
            costs = []
            for between in itertools.product(every, repeat=len(pattern) - 1):
                # The column of the next repeat has the ties across of the pattern's first one; they don't count.
                costs.append(strip_cost(pattern, [s, *between, t]) - own[t])
            told[s].append((min(costs), costs.count(min(costs))))
    return told


class StepTable(unittest.TestCase):
    def test_known(self):
        self.assertEqual(step_table(ONE_ROW), [[(0, 1), (1, 1)], [(1, 1), (0, 1)]])
        self.assertEqual(step_table([([], [-3])]), [[(3, 1), (0, 1)], [(0, 1), (3, 1)]])
        self.assertEqual(step_table([([], [0])]), [[(0, 1), (0, 1)], [(0, 1), (0, 1)]])
        self.assertEqual(step_table([([], [1]), ([], [1])]), [[(0, 1), (1, 2)], [(1, 2), (0, 1)]])
        self.assertEqual(step_table([([], [GREATEST]), ([], [-GREATEST])]), [
            [(GREATEST, 2), (0, 1)], [(0, 1), (GREATEST, 2)],
        ])
        told = step_table([([2], [0, 5])])
        # From row 0 down alone to none, to row 0, to row 1, to both: the tie across pays 2, the one of row 1 pays 5.
        self.assertEqual(told[1], [(2, 1), (2, 1), (7, 1), (7, 1)])

    def test_all_signs_gone_through(self):
        for pattern in patterns(60):
            if len(pattern[0][1]) * len(pattern) <= 9:
                self.assertEqual(step_table(pattern), step_by_words(pattern))

    def test_three_rows_and_six_columns(self):
        pattern = [([0, 0], [0, 0, 0])] * 6
        self.assertEqual(step_table(pattern), [[(0, 8 ** 5)] * 8] * 8)
        pattern = [([1, -2], [3, -1, 2])] * 6
        one = step_table(pattern[:1])
        told = one
        for more in range(5):
            told = tables_joined(told, one, 10 ** 9)
        self.assertEqual(step_table(pattern), told)

    def test_refusals(self):
        for pattern in wrong_patterns():
            self.assertIs(refusal(step_table, pattern), BadStrip, pattern)

    def test_what_is_not_refused(self):
        for rows, length in itertools.product((1, 2, 3), range(1, 7)):
            pattern = [([1] * (rows - 1), [1] * rows)] * length
            self.assertEqual(len(step_table(pattern)), 2 ** rows)

    def test_kinds_and_nothing_changed(self):
        for pattern in patterns(18):
            kept = copy.deepcopy(pattern)
            told = step_table(pattern)
            self.assertTrue(type(told) is list and all(type(row) is list for row in told))
            self.assertTrue(all(is_pair(pair) for row in told for pair in row))
            self.assertEqual({len(told), *map(len, told)}, {2 ** len(pattern[0][1])})
            answer = copy.deepcopy(told)
            told[0].clear()
            self.assertEqual(step_table(pattern), answer)
            self.assertEqual(pattern, kept)


class StripLeast(unittest.TestCase):
    def test_one_place(self):
        self.assertEqual(strip_least(ONE_ROW, 1, LAST), (0, 2))
        self.assertEqual(strip_least([([], [-GREATEST]), ([], [5])], 1, 3), (0, 2))
        self.assertEqual(strip_least(ONE_ROW, 1, 2), (0, 0))

    def test_one_column(self):
        self.assertEqual(strip_least([([1], [9, 9])], 1, 100), (0, 2))
        self.assertEqual(strip_least([([1, 0], [9, 9, 9])], 1, 100), (0, 4))
        self.assertEqual(strip_least([([-GREATEST, 0], [9, -9, 9])], 1, 3), (0, 1))

    def test_known(self):
        # Four places in a ring with one push: each of the four ties may be the unpleased one.
        self.assertEqual(strip_least([([1], [1, -1])], 2, 100), (1, 8))
        self.assertEqual(strip_least([([1], [1, -1])], 2, 3), (1, 2))
        # The last column's ties along count for nothing.
        self.assertEqual(strip_least([([1], [1, 1]), ([1], [5, -5])], 2, 100), (0, 2))
        self.assertEqual(strip_least([([1], [1, 1]), ([1], [5, -5])], 3, 100), (1, 2))

    def test_all_signs_gone_through(self):
        for pattern in patterns(72):
            rows = len(pattern[0][1])
            for columns in range(1, 10 // rows + 1):
                costs = strip_costs(pattern, columns)
                count = costs.count(min(costs))
                for modulus in (2, 3, 7, LAST):
                    self.assertEqual(strip_least(pattern, columns, modulus), (min(costs), count % modulus))

    def test_column_by_column(self):
        # Longer ones, held against a walk from column to column with whole numbers.
        for pattern in patterns(36):
            for columns in (17, 40, 61):
                low, many = walked(pattern, columns)
                for modulus in (2, 10, 998244353, LAST):
                    self.assertEqual(strip_least(pattern, columns, modulus), (low, many % modulus))

    def test_the_longest(self):
        for modulus in (2, 97, 10 ** 6 + 3, LAST):
            free = pow(2, MOST, modulus)
            self.assertEqual(strip_least([([], [0])], MOST, modulus), (0, free))
            self.assertEqual(strip_least([([0], [0, 0])], MOST, modulus), (0, free * free % modulus))
            self.assertEqual(strip_least([([0, -4], [0, 0, 0])] * 5, MOST, modulus), (0, free * free % modulus))
            self.assertEqual(strip_least(ONE_ROW * 6, MOST, modulus), (0, 2 % modulus))
            # Every second tie is free.
            half = 2 * pow(2, MOST // 2 - 1, modulus) % modulus
            self.assertEqual(strip_least([([], [5]), ([], [0])], MOST, modulus), (0, half))
            # Row 0 stays, row 1 changes at each column: at each second column the tie across pays.
            torn = [([1], [GREATEST, -GREATEST])]
            self.assertEqual(strip_least(torn, MOST, modulus), (MOST // 2, 4 % modulus))
            self.assertEqual(strip_least(torn, MOST - 1, modulus), (MOST // 2 - 1, 2 % modulus))
            # Unlike strengths across: the columns that pay are the cheaper ones.
            dear = [([3], [GREATEST, -GREATEST]), ([1], [GREATEST, -GREATEST])]
            self.assertEqual(strip_least(dear, MOST, modulus), (MOST // 2, 2 % modulus))

    def test_the_greatest_worth(self):
        pattern = [([-GREATEST, GREATEST], [GREATEST, GREATEST, -GREATEST])]
        low, many = strip_least(pattern, MOST, LAST)
        # In each square of rows 1 and 2 just one tie, or three, can't get its wish; those of rows 0 and 1 are even.
        self.assertEqual(low, MOST // 2 * GREATEST)

    def test_refused_patterns(self):
        for pattern in wrong_patterns():
            self.assertIs(refusal(strip_least, pattern, 5, 7), BadStrip, pattern)
            self.assertIs(refusal(strip_least, pattern, 0, 1), BadStrip, pattern)

    def test_refused_numbers(self):
        for columns in (0, -1, -MOST, MOST + 1, 10 * MOST):
            self.assertIs(refusal(strip_least, ONE_ROW, columns, 7), BadStrip)
        for modulus in (1, 0, -1, -7, LAST + 1, 10 * LAST):
            self.assertIs(refusal(strip_least, ONE_ROW, 5, modulus), BadStrip)
        for columns, modulus in itertools.product((1, 2, MOST - 1, MOST), (2, 3, LAST - 1, LAST)):
            self.assertIsNone(refusal(strip_least, ONE_ROW, columns, modulus))

    def test_kinds_and_nothing_changed(self):
        for pattern in patterns(18):
            kept = copy.deepcopy(pattern)
            told = strip_least(pattern, 50, 1000)
            self.assertTrue(is_pair(told))
            self.assertEqual(strip_least(pattern, 50, 1000), told)
            self.assertEqual(pattern, kept)


def walked(pattern, columns):
    """The least worth and how many have it, column by column."""
    rows = len(pattern[0][1])
    lows = {signs: (0, 1) for signs in range(2 ** rows)}
    for column in range(columns):
        across, along = pattern[column % len(pattern)]
        for signs, (low, many) in list(lows.items()):
            lows[signs] = (low + strip_cost([(across, along)], [signs]), many)
        if column + 1 < columns:
            new = {}
            for then in range(2 ** rows):
                ways = [(low + strip_cost([([0] * (rows - 1), along)], [signs, then]), many)
                        for signs, (low, many) in lows.items()]
                best = min(low for low, many in ways)
                new[then] = (best, sum(many for low, many in ways if low == best))
            lows = new
    best = min(low for low, many in lows.values())
    return best, sum(many for low, many in lows.values() if low == best)


if __name__ == "__main__":
    unittest.main()
