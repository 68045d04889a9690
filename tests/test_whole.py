"""Points 0.1 to 0.6 over the whole program: one story through all of it, and what holds for every question."""

import copy
import os
import pathlib
import subprocess
import sys
import unittest

from samples import Dice, all_costs, all_fields, grid, grown, refusal, triangle, with_odd
from spinfloor.alike import both_ways, set_ties
from spinfloor.allleast import all_least, free_steps, tight_ties
from spinfloor.answers import answer, settles, shown, taken
from spinfloor.climbs import climb, falls, resting, shore
from spinfloor.desk import Desk
from spinfloor import errors
from spinfloor.fronts import fronts
from spinfloor.hills import hills
from spinfloor.layings import laying_of, odd_at, odd_rounds, unpleased, worth
from spinfloor.least import certain, least
from spinfloor.longrun import long_run
from spinfloor.other import links_of
from spinfloor.pairing import heights, paired
from spinfloor.patches import gain, pieces, rim
from spinfloor.powers import table_power, tables_joined
from spinfloor.roofs import at_pull, roof, with_pull
from spinfloor.strips import step_table, strip_least
from spinfloor.stripwebs import strip_web
from spinfloor.tables import front_table, least_many
from spinfloor.texts import read, written
from spinfloor.ties import Pull
from spinfloor.webs import Web
from spinfloor.worths import worths

HERE = pathlib.Path(__file__).resolve().parent
PATTERN = [([1, -2], [3, -1, 2]), ([0, 1], [1, 1, -1])]


def told_of(web):
    """What the program tells of a web, all in one list."""
    found = least(web)
    order = Dice(web.many).mixed(range(web.many))
    rooms = (len(web.rounds), links_of(web), odd_rounds(web))
    asked = [
        found, certain(web, *found[1:]), both_ways(web), set_ties(web), all_least(web, 1000), fronts(web, order),
        tight_ties(web, found[2]), free_steps(web, 5, 2), front_table(web, order, 3), least_many(web), worths(web, order),
        climb(web, 1, 6), shore(web, found[1], found[0] + 3), falls(web, 3), resting(web), written(web),
        unpleased(web, 3), worth(web, 3), odd_at(web, 3, 0), laying_of(web, unpleased(web, 6)), links_of(web),
        rim(web, 5), gain(web, 3, 5), pieces(web, 5), roof(web, 0), all_fields(with_pull(web, 0, -3)), paired(*rooms),
        heights(*rooms), hills(*rooms), shown(found), settles(web, shown(found)), answer(written(web)),
    ]
    return asked


def told_of_strips():
    table = step_table(PATTERN)
    return [
        table, strip_least(PATTERN, 10 ** 18, 10 ** 9), long_run(PATTERN), table_power(table, 12, 97),
        tables_joined(table, table, 97), all_fields(strip_web(PATTERN, 5)),
    ]


def everything():
    return repr([[str(each) for each in told_of(grown(seed, 8, 14))] for seed in range(6)] + told_of_strips())


def plain(value):
    if type(value) in (list, tuple):
        return all(plain(each) for each in value)
    return type(value) in (int, str, bool) or value is None


class Whole(unittest.TestCase):
    def test_a_story(self):
        web = with_odd(Web(9, *grid(3, 3)), 1, 4, [1, 2, 3])
        costs = all_costs(web)
        desk = Desk(written(web))
        self.assertTrue(settles(web, desk.answer()))
        cost, laying, paper = taken(desk.answer())
        self.assertEqual(cost, min(costs))
        self.assertEqual(worths(web)[0], least_many(web))
        self.assertEqual(2 * len(all_least(web)), least_many(web)[1])
        for low in all_least(web):
            self.assertTrue(certain(web, low, paper))
            self.assertIn(low, resting(web))
            self.assertEqual(shore(web, low, cost), [])
            self.assertIn(low, falls(web, low ^ 1))
            height, way = climb(web, laying, low)
            self.assertEqual(max(costs[each] for each in way), height)
        for number, tie in enumerate(web.ties):
            self.assertEqual(at_pull(desk.roof(number), tie.signed()), cost)
            self.assertEqual(min(both_ways(web)[number]), cost)
            desk.do(f"push {number} 9")
            self.assertEqual(at_pull(roof(web, number), -9), least(read(desk.text()))[0])
            desk.do("back")
        strip = strip_web(PATTERN, 4)
        self.assertEqual(least_many(strip), strip_least(PATTERN, 4, 10 ** 9))
        self.assertTrue(settles(strip, answer(written(strip))))

    def test_nothing_is_changed_and_the_answers_stay(self):
        for seed in range(8):
            web = grown(seed, 4 + seed % 5, 9 + seed % 3)
            before = copy.deepcopy(all_fields(web))
            first = told_of(web)
            self.assertEqual(told_of(web), first)
            self.assertEqual(all_fields(web), before)
            # A second web of the same text has the same answers.
            self.assertEqual(told_of(read(written(web))), first)
        self.assertEqual(told_of_strips(), told_of_strips())

    def test_plain_kinds(self):
        # But for the classes of the ties, which stand among the fields of a web.
        for each in [each for seed in range(5) for each in told_of(grown(seed, 6, 11))] + told_of_strips():
            if not (type(each) is tuple and len(each) == 5):
                self.assertTrue(plain(each), each)

    def test_the_same_in_each_run(self):
        tellings = []
        for seed in ("0", "1", "77"):
            path = os.pathsep.join([str(HERE.parent), str(HERE)])
            surroundings = {**os.environ, "PYTHONHASHSEED": seed, "PYTHONPATH": path}
            asked = [sys.executable, "-c", "import test_whole; print(test_whole.everything())"]
            tellings.append(subprocess.run(asked, env=surroundings, capture_output=True, text=True, check=True).stdout)
        self.assertEqual(tellings[0].strip(), everything())
        self.assertEqual(len(set(tellings)), 1)

    def test_each_refusal_is_met(self):
        rough = with_odd(Web(40, *grid(5, 8)), 1, 14)
        wide = Web(36, *grid(4, 9))
        three = [Pull(0, 1, 1)] * 3
        met = [
            refusal(Pull, 0, 0, 1), refusal(Web, 2, [Pull(0, 1, 1)], [[0]]), refusal(Web, 3, three, [[0, 1, 2]] * 2 + [[]]),
            refusal(Web, 2, three, [[0, 1, 2]] * 2), refusal(paired, 2, [(0, 1, 1)], 1), refusal(least, rough),
            refusal(all_least, triangle(0, 0, 0), 3), refusal(least_many, wide), refusal(fronts, wide, [0]),
            refusal(step_table, []), refusal(Desk(written(rough)).do, "back"), refusal(read, ""),
            refusal(laying_of, triangle(), 0),
        ]
        names = [
            "BadTie", "BadTurns", "Parted", "NotFlat", "OddMarks", "TooRough", "TooMany", "TooWide", "BadOrder",
            "BadStrip", "BadDeed", "BadText", "NoLaying",
        ]
        self.assertEqual(met, [getattr(errors, name) for name in names])
        for kind in met:
            self.assertEqual(kind.__bases__, (errors.FloorError,))


if __name__ == "__main__":
    unittest.main()
