"""Point 9.6, with what 9.2 refuses: what a pattern costs in the long run; 0.2 to 0.6 over it."""

import copy
import itertools
import math
import unittest
from fractions import Fraction

from samples import GREATEST, Dice, is_number, patterns, refusal, wrong_patterns
from spinfloor.errors import BadStrip
from spinfloor.longrun import long_run, long_run_of
from spinfloor.strips import step_table, strip_least


def least_average(lows):
    """All loops without signs twice gone through."""
    averages = []
    for length in range(1, len(lows) + 1):
        for loop in itertools.permutations(range(len(lows)), length):
            steps = zip(loop, loop[1:] + loop[:1])
            averages.append(Fraction(sum(lows[s][t] for s, t in steps), length))
    return min(averages)


class LongRun(unittest.TestCase):
    def shows(self, lows, told):
        """Both papers hold."""
        top, bottom, loop, slopes = told
        size = len(lows)
        self.assertGreaterEqual(bottom, 1)
        self.assertEqual(math.gcd(top, bottom), 1)
        self.assertTrue(1 <= len(loop) <= size)
        self.assertEqual(len(set(loop)), len(loop))
        self.assertLessEqual(set(loop), set(range(size)))
        total = sum(lows[s][t] for s, t in zip(loop, loop[1:] + loop[:1]))
        self.assertEqual(total * bottom, top * len(loop))
        self.assertEqual(len(slopes), size)
        for s, t in itertools.product(range(size), repeat=2):
            self.assertGreaterEqual(bottom * lows[s][t] + slopes[s] - slopes[t], top)

    def lows(self, pattern):
        return [[low for low, many in row] for row in step_table(pattern)]

    def test_known(self):
        self.assertEqual(long_run([([], [1])])[:2], (0, 1))
        self.assertEqual(long_run([([], [-GREATEST])])[:2], (0, 1))
        # Row 0 stays, row 1 changes: the tie across pays at each second column.
        self.assertEqual(long_run([([1], [GREATEST, -GREATEST])])[:2], (1, 2))
        self.assertEqual(long_run([([7], [GREATEST, -GREATEST])])[:2], (7, 2))
        self.assertEqual(long_run([([6], [GREATEST, -GREATEST])])[:2], (3, 1))
        self.assertEqual(long_run([([1], [GREATEST, -GREATEST])] * 2)[:2], (1, 1))
        self.assertEqual(long_run([([1], [GREATEST, -GREATEST])] * 3)[:2], (3, 2))

    def test_a_loop_of_one_signs(self):
        top, bottom, loop, slopes = long_run([([], [1])])
        self.assertEqual((len(loop), top, bottom), (1, 0, 1))
        self.assertEqual(len(long_run([([0], [0, 0])])[2]), 1)

    def test_a_loop_of_two_signs(self):
        told = long_run([([], [-1])])
        self.assertEqual((told[:2], sorted(told[2])), ((0, 1), [0, 1]))

    def test_both_papers(self):
        seen = set()
        for pattern in patterns(180):
            told = long_run(pattern)
            self.shows(self.lows(pattern), told)
            seen.add((told[1], len(told[2])))
        for pattern in patterns(90, [1, -1, 2, -3, 5]):
            told = long_run(pattern)
            self.shows(self.lows(pattern), told)
            seen.add((told[1], len(told[2])))
        # Halves, and loops of one, two and more signs were met.
        self.assertLessEqual({(1, 1), (1, 2), (2, 2)}, seen)

    def test_all_loops_gone_through(self):
        for pattern in patterns(60, [0, 1, -1, 2, -3, GREATEST]):
            if len(pattern[0][1]) < 3:
                top, bottom, loop, slopes = long_run(pattern)
                self.assertEqual(Fraction(top, bottom), least_average(self.lows(pattern)))

    def test_any_lows(self):
        # Also with averages below nought, and with long loops, which steps of strips seldom have.
        seen = set()
        for seed in range(120):
            dice = Dice(seed)
            size = 1 + seed % 8
            kinds = [[-3, -2, -1, 0, 1], range(-9, 60), range(40), [5], [0, GREATEST], [-GREATEST, 3, 7]]
            lows = [[dice.one_of(kinds[seed % 6]) for then in range(size)] for signs in range(size)]
            told = long_run_of(lows)
            self.shows(lows, told)
            if size < 6:
                self.assertEqual(Fraction(told[0], told[1]), least_average(lows))
            seen.add((told[0] > 0) - (told[0] < 0))
        self.assertEqual(seen, {-1, 0, 1})

    def test_a_loop_through_all_signs(self):
        for size in range(1, 9):
            lows = [[1 if t == (s + 1) % size else 100 for t in range(size)] for s in range(size)]
            lows[0][1 % size] = -size
            top, bottom, loop, slopes = long_run_of(lows)
            self.shows(lows, (top, bottom, loop, slopes))
            self.assertEqual(len(loop), size)
            self.assertEqual(Fraction(top, bottom), Fraction(-1, size) if size > 1 else -1)

    def test_long_strips_stay_near(self):
        for pattern in patterns(40):
            top, bottom, loop, slopes = long_run(pattern)
            spread = max(slopes) - min(slopes)
            across = bottom * sum(abs(signed) for signed in pattern[0][0])
            for repeats in (1, 2, 7, 10 ** 12 + 1, (10 ** 18 - 1) // len(pattern)):
                low = strip_least(pattern, repeats * len(pattern) + 1, 2)[0]
                self.assertTrue(-spread <= bottom * low - repeats * top <= spread + across)

    def test_refusals(self):
        for pattern in wrong_patterns():
            self.assertIs(refusal(long_run, pattern), BadStrip, pattern)

    def test_kinds_and_nothing_changed(self):
        for pattern in patterns(36):
            kept = copy.deepcopy(pattern)
            told = long_run(pattern)
            self.assertTrue(type(told) is tuple and len(told) == 4)
            self.assertTrue(is_number(told[0]) and is_number(told[1]))
            for row in told[2:]:
                self.assertTrue(type(row) is list and all(is_number(each) for each in row))
            answer = copy.deepcopy(told)
            told[2].append(9)
            told[3].append(9)
            self.assertEqual(long_run(pattern), answer)
            self.assertEqual(pattern, kept)


if __name__ == "__main__":
    unittest.main()
