"""Points 0.3, 1.3, 1.4 and 1.5: ties and what they cost."""

import unittest

from spinfloor.errors import BadTie
from spinfloor.ties import Pull, Push, Tie, tie_of

GREATEST = 10 ** 30


def fields(tie):
    return (type(tie), tie.one, tie.two, tie.strength)


class Making(unittest.TestCase):
    def test_the_kinds_stand_beneath_tie(self):
        self.assertEqual((Pull.__bases__, Push.__bases__), ((Tie,), (Tie,)))

    def test_the_ends_stay_in_the_order_told(self):
        for kind in [Pull, Push]:
            self.assertEqual(fields(kind(2, 5, 7)), (kind, 2, 5, 7))
            self.assertEqual(fields(kind(5, 2, 7)), (kind, 5, 2, 7))
            self.assertEqual(fields(kind(39, 0, 0)), (kind, 39, 0, 0))
            self.assertEqual(fields(kind(0, 39, GREATEST)), (kind, 0, 39, GREATEST))

    def test_fields_are_whole_numbers(self):
        for tie in [Pull(0, 1, 0), Push(3, 2, GREATEST), tie_of(0, 1, -4), tie_of(0, 1, 0)]:
            self.assertEqual({type(tie.one), type(tie.two), type(tie.strength)}, {int})

    def test_somewhat_beyond_the_bounds_is_let(self):
        for kind in [Pull, Push]:
            self.assertEqual(fields(kind(80, 41, GREATEST + 1)), (kind, 80, 41, GREATEST + 1))
        self.assertEqual(fields(tie_of(80, 41, -GREATEST - 1)), (Push, 80, 41, GREATEST + 1))


class Refused(unittest.TestCase):
    def refuses(self, make, one, two, strength):
        with self.assertRaises(BadTie) as caught:
            make(one, two, strength)
        self.assertIs(type(caught.exception), BadTie)

    def test_equal_ends(self):
        for make in [Pull, Push, tie_of]:
            for place in [0, 1, 39]:
                for strength in [0, 1, GREATEST]:
                    self.refuses(make, place, place, strength)
        self.refuses(tie_of, 3, 3, -1)

    def test_an_end_below_nought(self):
        for make in [Pull, Push, tie_of]:
            for one, two in [(-1, 0), (0, -1), (-1, -2), (-3, -3), (-GREATEST, 4), (4, -GREATEST)]:
                for strength in [0, 5]:
                    self.refuses(make, one, two, strength)
        self.refuses(tie_of, -1, 2, -5)
        self.refuses(tie_of, 2, -1, -5)

    def test_a_strength_below_nought(self):
        for kind in [Pull, Push]:
            for strength in [-1, -7, -GREATEST]:
                self.refuses(kind, 0, 1, strength)

    def test_several_faults(self):
        for kind in [Pull, Push]:
            self.refuses(kind, -1, -1, -1)
            self.refuses(kind, 2, 2, -1)


class Wishes(unittest.TestCase):
    def test_wish(self):
        for strength in [0, 1, GREATEST]:
            self.assertEqual(Pull(0, 1, strength).wish(), 0)
            self.assertEqual(Push(0, 1, strength).wish(), 1)

    def test_wish_is_a_whole_number(self):
        self.assertEqual([type(tie.wish()) for tie in [Pull(0, 1, 2), Push(0, 1, 2)]], [int, int])


class Costs(unittest.TestCase):
    def holds(self, tie, laying, unpleased):
        self.assertIs(tie.unpleased(laying), unpleased)
        price = tie.price(laying)
        self.assertIs(type(price), int)
        self.assertEqual(price, tie.strength if unpleased else 0)

    def test_two_places(self):
        for strength in [0, 1, 7, GREATEST]:
            for one, two in [(0, 1), (1, 0)]:
                for laying, unlike in [(0, False), (1, True), (2, True), (3, False)]:
                    self.holds(Pull(one, two, strength), laying, unlike)
                    self.holds(Push(one, two, strength), laying, not unlike)

    def test_signs_of_other_places_count_for_nothing(self):
        for laying in range(2 ** 6):
            unlike = (laying // 4 % 2) != (laying // 16 % 2)
            for one, two in [(2, 4), (4, 2)]:
                self.holds(Pull(one, two, 9), laying, unlike)
                self.holds(Push(one, two, 9), laying, not unlike)

    def test_places_far_apart(self):
        down = 2 ** 39
        others = 2 ** 39 - 2
        for laying, unlike in [
            (0, False), (1, True), (down, True), (down + 1, False),
            (others, False), (others + 1, True), (others + down, True), (others + down + 1, False),
        ]:
            self.holds(Pull(0, 39, GREATEST), laying, unlike)
            self.holds(Push(39, 0, GREATEST), laying, not unlike)

    def test_a_laying_of_more_places_than_the_ends(self):
        self.holds(Pull(0, 1, 5), 2 ** 79, False)
        self.holds(Push(0, 1, 5), 2 ** 79, True)
        self.holds(Pull(0, 1, 5), 2 ** 79 + 2, True)
        self.holds(Push(0, 1, 5), 2 ** 79 + 2, False)


class Signed(unittest.TestCase):
    def test_from_nought_on_a_pull(self):
        for signed in [0, 1, 12, GREATEST]:
            self.assertEqual(fields(tie_of(4, 1, signed)), (Pull, 4, 1, signed))

    def test_below_nought_a_push(self):
        for strength in [1, 12, GREATEST]:
            self.assertEqual(fields(tie_of(4, 1, -strength)), (Push, 4, 1, strength))

    def test_signed(self):
        for strength in [0, 1, 12, GREATEST]:
            self.assertEqual(Pull(0, 1, strength).signed(), strength)
            self.assertEqual(Push(0, 1, strength).signed(), -strength)

    def test_signed_is_what_it_was_made_from(self):
        for signed in [-GREATEST, -3, -1, 0, 1, 3, GREATEST]:
            told = tie_of(0, 1, signed).signed()
            self.assertEqual(told, signed)
            self.assertIs(type(told), int)


class Across(unittest.TestCase):
    def test_the_other_end(self):
        for kind in [Pull, Push]:
            for one, two in [(0, 1), (1, 0), (39, 3)]:
                tie = kind(one, two, 6)
                self.assertEqual((tie.across(one), tie.across(two)), (two, one))
                self.assertIs(type(tie.across(one)), int)


class Staying(unittest.TestCase):
    def test_no_method_changes_a_tie(self):
        for tie in [Pull(3, 0, 8), Push(3, 0, 8), tie_of(3, 0, -8)]:
            ahead = fields(tie)
            answers = []
            for turn in range(2):
                answers.append((
                    tie.wish(), tie.unpleased(1), tie.unpleased(9), tie.price(1), tie.price(9),
                    tie.signed(), tie.across(3), tie.across(0),
                ))
            self.assertEqual(answers[0], answers[1])
            self.assertEqual(fields(tie), ahead)

    def test_ties_keep_apart(self):
        one, two = Pull(0, 1, 2), Push(3, 4, 5)
        self.assertEqual((fields(one), fields(two)), ((Pull, 0, 1, 2), (Push, 3, 4, 5)))


if __name__ == "__main__":
    unittest.main()
