"""Whole numbers, rising tuples and lots: points 2 and 3."""

import itertools
import unittest

from eachonce.kinds import is_lot, is_rising, is_whole, mask_of

NO_TUPLES = (None, True, 0, 7, "", "01", [], [0, 1], {}, {0: 1})


class WholeNumbers(unittest.TestCase):
    def test_ints_are_whole_numbers(self):
        for number in (0, 1, -1, 16, 10 ** 12, 10 ** 60 - 1, -(10 ** 60 - 1)):
            with self.subTest(number=number):
                self.assertIs(is_whole(number), True)

    def test_truths_and_all_else_are_none(self):
        for thing in (True, False, None, "", "0", [], [0], (), (0,), {}, {0: 0}):
            with self.subTest(thing=thing):
                self.assertIs(is_whole(thing), False)


class RisingTuples(unittest.TestCase):
    def test_each_less_than_the_next_one(self):
        for length in range(4):
            for thing in itertools.product(range(-2, 3), repeat=length):
                with self.subTest(thing=thing):
                    self.assertIs(is_rising(thing), list(thing) == sorted(set(thing)))

    def test_only_of_whole_numbers(self):
        for odd in (True, False, None, "0", [0], (0,), {0: 0}):
            for thing in ((odd,), (-1, odd), (odd, 2), (-1, odd, 2)):
                with self.subTest(thing=thing):
                    self.assertIs(is_rising(thing), False)

    def test_only_tuples(self):
        for thing in NO_TUPLES:
            with self.subTest(thing=thing):
                self.assertIs(is_rising(thing), False)


class Lots(unittest.TestCase):
    def test_a_rising_tuple_of_things(self):
        for many in range(4):
            for length in range(4):
                for thing in itertools.product(range(-1, 5), repeat=length):
                    rising = list(thing) == sorted(set(thing))
                    there = all(number in range(many) for number in thing)
                    with self.subTest(thing=thing, many=many):
                        self.assertIs(is_lot(thing, many), rising and there)

    def test_only_tuples(self):
        for thing in NO_TUPLES:
            with self.subTest(thing=thing):
                self.assertIs(is_lot(thing, 8), False)

    def test_masks_have_a_bit_for_each_thing(self):
        for lot, mask in (((), 0), ((0,), 1), ((3,), 8), ((0, 1, 4), 19), (tuple(range(20)), 2 ** 20 - 1)):
            self.assertEqual(mask_of(lot), mask)


if __name__ == "__main__":
    unittest.main()
