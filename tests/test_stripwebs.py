"""Point 11.1: strips laid as webs; 0.2 to 0.6 over it."""

import copy
import itertools
import unittest

from samples import GREATEST, all_fields, fields, patterns, refusal, strip_costs, wrong_patterns
from spinfloor.errors import BadStrip, TooWide
from spinfloor.least import least
from spinfloor.strips import strip_least
from spinfloor.stripwebs import strip_web
from spinfloor.tables import least_many
from spinfloor.ties import Pull, Push
from spinfloor.webs import Web
from spinfloor.worths import worths

LAST = 10 ** 9


def by_words(pattern, columns):
    """Ties and turns, looked up place by place."""
    rows = len(pattern[0][1])
    told, number_at = [], {}
    for c in range(columns):
        across, along = pattern[c % len(pattern)]
        ends = [((c, r), (c, r + 1), across[r]) for r in range(rows - 1)]
        if c < columns - 1:
            ends += [((c, r), (c + 1, r), along[r]) for r in range(rows)]
        for one, two, signed in ends:
            number_at[one, two] = number_at[two, one] = len(told)
            places = [column * rows + row for column, row in (one, two)]
            told.append((Push if signed < 0 else Pull, *places, abs(signed)))
    turns = []
    for c, r in itertools.product(range(columns), range(rows)):
        near = [(c, r - 1), (c + 1, r), (c, r + 1), (c - 1, r)]
        turns.append([number_at[(c, r), there] for there in near if ((c, r), there) in number_at])
    return told, turns


class StripWeb(unittest.TestCase):
    def test_known(self):
        web = strip_web([([1], [2, -3]), ([-4], [0, 5])], 3)
        self.assertEqual(web.many, 6)
        self.assertEqual(fields(web.ties), [
            (Pull, 0, 1, 1), (Pull, 0, 2, 2), (Push, 1, 3, 3), (Push, 2, 3, 4), (Pull, 2, 4, 0), (Pull, 3, 5, 5),
            (Pull, 4, 5, 1),
        ])
        self.assertEqual(web.turns, [[1, 0], [0, 2], [4, 3, 1], [3, 5, 2], [6, 4], [6, 5]])
        line = strip_web([([], [1]), ([], [-2])], 4)
        self.assertEqual(fields(line.ties), [(Pull, 0, 1, 1), (Push, 1, 2, 2), (Pull, 2, 3, 1)])
        self.assertEqual(line.turns, [[0], [1, 0], [2, 1], [2]])
        column = strip_web([([1, -GREATEST], [7, 7, 7])], 1)
        self.assertEqual(fields(column.ties), [(Pull, 0, 1, 1), (Push, 1, 2, GREATEST)])
        self.assertEqual(column.turns, [[0], [0, 1], [1]])

    def test_by_its_words(self):
        for pattern in patterns(72):
            rows = len(pattern[0][1])
            for columns in {1, 2, 3, 5, 7, 40 // rows}:
                if rows * columns > 1:
                    web = strip_web(pattern, columns)
                    ties, turns = by_words(pattern, columns)
                    self.assertEqual(web.many, rows * columns)
                    self.assertEqual((fields(web.ties), web.turns), (ties, turns))
                    self.assertIs(type(web), Web)

    def test_held_against_the_strips(self):
        for pattern in patterns(90):
            rows = len(pattern[0][1])
            for columns in {2, 3, 6, 40 // rows}:
                web = strip_web(pattern, columns)
                low, many = least_many(web)
                self.assertEqual((low, many % LAST), strip_least(pattern, columns, LAST))

    def test_all_signs_gone_through(self):
        for pattern in patterns(36):
            columns = 9 // len(pattern[0][1])
            costs = strip_costs(pattern, columns)
            told = [(worth, costs.count(worth)) for worth in sorted(set(costs))]
            self.assertEqual(worths(strip_web(pattern, columns)), told)

    def test_held_against_least_layings(self):
        pattern = [([1, 1], [1, 1, 1]), ([1, 1], [-2, 3, 1]), ([-1, 1], [1, 2, 1])]
        for columns in range(2, 8):
            web = strip_web(pattern, columns)
            self.assertEqual(least(web)[0], strip_least(pattern, columns, LAST)[0])

    def test_too_many_places_or_one(self):
        one, two, three = [[([1] * (rows - 1), [1] * rows)] for rows in (1, 2, 3)]
        self.assertIs(refusal(strip_web, one, 1), TooWide)
        for pattern, most in ((one, 40), (two, 20), (three, 13)):
            self.assertEqual(strip_web(pattern, most).many, most * len(pattern[0][1]))
            for columns in (most + 1, most + 2, 100, 10 ** 18):
                self.assertIs(refusal(strip_web, pattern, columns), TooWide)
        for pattern, columns in ((one, 2), (two, 1), (three, 1)):
            self.assertIsNone(refusal(strip_web, pattern, columns))

    def test_bad_strips(self):
        right = [([1], [1, 1])]
        for columns in (0, -1, -40, 10 ** 18 + 1, 10 ** 30):
            self.assertIs(refusal(strip_web, right, columns), BadStrip)
            # A strip of one place would be due as well, had it a column.
            self.assertIs(refusal(strip_web, [([], [1])], columns), BadStrip)
        for pattern in wrong_patterns():
            # BadStrip goes ahead of TooWide.
            for columns in (1, 2, 41, 10 ** 18, 0):
                self.assertIs(refusal(strip_web, pattern, columns), BadStrip, pattern)

    def test_nothing_is_changed(self):
        for pattern in patterns(18):
            kept = copy.deepcopy(pattern)
            web = strip_web(pattern, 4)
            before = copy.deepcopy(all_fields(web))
            pattern[0][1][0] += 1
            self.assertEqual(all_fields(web), before)
            pattern[0][1][0] -= 1
            self.assertEqual(all_fields(strip_web(pattern, 4)), before)
            self.assertEqual(pattern, kept)


if __name__ == "__main__":
    unittest.main()
