"""Points 0.2, 1.1 and 1.2: sets of numbers told as masks."""

import unittest

from spinfloor.masks import bits, mask_of, odd, ones

WHOLE = 2 ** 80 - 1

# Each set ascending, with its mask written out.
KNOWN = [
    ([], 0),
    ([0], 1),
    ([1], 2),
    ([0, 1], 3),
    ([2], 4),
    ([0, 2, 3], 13),
    ([5, 7], 160),
    ([39], 549755813888),
    ([0, 40], 1099511627777),
    ([63], 9223372036854775808),
    ([64], 18446744073709551616),
    ([79], 604462909807314587353088),
    ([0, 78, 79], 906694364710971881029633),
    (list(range(80)), WHOLE),
]


def some_masks():
    # A fixed row of masks of every width, without chance.
    mask = 1
    for step in range(400):
        mask = (mask * 6364136223846793005 + 1442695040888963407) % 2 ** 160
        yield (mask >> 37) % 2 ** (1 + step % 80)


class Known(unittest.TestCase):
    def test_ones(self):
        for numbers, mask in KNOWN:
            self.assertEqual(ones(mask), len(numbers))

    def test_odd(self):
        for numbers, mask in KNOWN:
            self.assertEqual(odd(mask), len(numbers) % 2)

    def test_bits(self):
        for numbers, mask in KNOWN:
            self.assertEqual(bits(mask), numbers)

    def test_mask_of(self):
        for numbers, mask in KNOWN:
            self.assertEqual(mask_of(numbers), mask)

    def test_each_number_alone(self):
        for number in range(80):
            self.assertEqual(mask_of([number]), 2 ** number)
            self.assertEqual(bits(2 ** number), [number])
            self.assertEqual((ones(2 ** number), odd(2 ** number)), (1, 1))
            rest = WHOLE - 2 ** number
            self.assertEqual(bits(rest), [each for each in range(80) if each != number])
            self.assertEqual((ones(rest), odd(rest)), (79, 1))


class Many(unittest.TestCase):
    def test_small_masks_all(self):
        for mask in range(2 ** 10):
            numbers = [k for k in range(10) if mask // 2 ** k % 2 == 1]
            self.assertEqual(bits(mask), numbers)
            self.assertEqual((ones(mask), odd(mask)), (len(numbers), len(numbers) % 2))
            self.assertEqual(mask_of(numbers), mask)

    def test_wide_masks(self):
        for mask in some_masks():
            numbers = [k for k in range(80) if mask // 2 ** k % 2 == 1]
            self.assertEqual(bits(mask), numbers)
            self.assertEqual((ones(mask), odd(mask)), (len(numbers), len(numbers) % 2))
            self.assertEqual(mask_of(numbers), mask)

    def test_somewhat_beyond_the_bounds(self):
        mask = 2 ** 90 + 2 ** 80 + 1
        self.assertEqual(bits(mask), [0, 80, 90])
        self.assertEqual((ones(mask), odd(mask)), (3, 1))
        self.assertEqual(mask_of([90, 0, 80]), mask)


class Lists(unittest.TestCase):
    def test_told_twice_counts_once(self):
        self.assertEqual(mask_of([3, 3]), 8)
        self.assertEqual(mask_of([0, 5, 0, 5, 0]), 33)
        self.assertEqual(mask_of([79, 79, 79]), 2 ** 79)

    def test_the_order_is_free(self):
        for numbers in [[7, 5, 0], [0, 5, 7], [5, 0, 7], [5, 7, 0, 7]]:
            self.assertEqual(mask_of(numbers), 161)

    def test_the_list_stays(self):
        numbers = [9, 2, 9, 0, 79]
        mask_of(numbers)
        self.assertEqual(numbers, [9, 2, 9, 0, 79])

    def test_what_is_told_is_the_askers_own(self):
        told = bits(37)
        told.append(99)
        self.assertEqual(bits(37), [0, 2, 5])
        empty = bits(0)
        empty.append(99)
        self.assertEqual(bits(0), [])


class Kinds(unittest.TestCase):
    def test_whole_numbers_and_lists(self):
        for numbers, mask in KNOWN:
            self.assertIs(type(ones(mask)), int)
            self.assertIs(type(odd(mask)), int)
            self.assertIs(type(mask_of(numbers)), int)
            told = bits(mask)
            self.assertIs(type(told), list)
            self.assertEqual([each for each in told if type(each) is not int], [])


if __name__ == "__main__":
    unittest.main()
