"""Whole numbers, rising tuples, lots and fractions: points 2 and 3."""

import fractions
import itertools
import math
import unittest

from eachonce.kinds import (
    common_divisor, fraction_of, is_fraction, is_less, is_lot, is_rising, is_whole, lot_of, mask_of, sum_of,
)

NO_TUPLES = (None, True, 0, 7, "", "01", [], [0, 1], {}, {0: 1})


class WholeNumbers(unittest.TestCase):
    def test_ints_are_whole_numbers(self):
        for number in (0, 1, -1, 16, 10 ** 12, 10 ** 60 - 1, -(10 ** 60 - 1)):
            with self.subTest(number=number):
                self.assertIs(is_whole(number), True)

    def test_truths_and_all_else_are_none(self):
        for thing in (True, False, None, "", "0", [], [0], (), (0,), {}, {0: 0}):
            with self.subTest(thing=thing):
                self.assertIs(is_whole(thing), False)


class RisingTuples(unittest.TestCase):
    def test_each_less_than_the_next_one(self):
        for length in range(4):
            for thing in itertools.product(range(-2, 3), repeat=length):
                with self.subTest(thing=thing):
                    self.assertIs(is_rising(thing), list(thing) == sorted(set(thing)))

    def test_only_of_whole_numbers(self):
        for odd in (True, False, None, "0", [0], (0,), {0: 0}):
            for thing in ((odd,), (-1, odd), (odd, 2), (-1, odd, 2)):
                with self.subTest(thing=thing):
                    self.assertIs(is_rising(thing), False)

    def test_only_tuples(self):
        for thing in NO_TUPLES:
            with self.subTest(thing=thing):
                self.assertIs(is_rising(thing), False)


class Lots(unittest.TestCase):
    def test_a_rising_tuple_of_things(self):
        for many in range(4):
            for length in range(4):
                for thing in itertools.product(range(-1, 5), repeat=length):
                    rising = list(thing) == sorted(set(thing))
                    there = all(number in range(many) for number in thing)
                    with self.subTest(thing=thing, many=many):
                        self.assertIs(is_lot(thing, many), rising and there)

    def test_only_tuples(self):
        for thing in NO_TUPLES:
            with self.subTest(thing=thing):
                self.assertIs(is_lot(thing, 8), False)

    def test_masks_have_a_bit_for_each_thing(self):
        for lot, mask in (((), 0), ((0,), 1), ((3,), 8), ((0, 1, 4), 19), (tuple(range(20)), 2 ** 20 - 1)):
            self.assertEqual(mask_of(lot), mask)
            self.assertEqual(lot_of(mask), lot)


class Fractions(unittest.TestCase):
    def test_a_bottom_from_1_on_and_nothing_that_divides_both(self):
        for top in range(-13, 14):
            for bottom in range(-13, 14):
                with self.subTest(top=top, bottom=bottom):
                    self.assertIs(is_fraction((top, bottom)), bottom >= 1 and math.gcd(top, bottom) == 1)

    def test_nought_is_0_above_1_alone(self):
        self.assertIs(is_fraction((0, 1)), True)
        for bottom in (0, 2, 3, -1, 10 ** 60 - 1):
            self.assertIs(is_fraction((0, bottom)), False)

    def test_of_many_figures(self):
        three = 3 ** 120
        self.assertIs(is_fraction((2 ** 190, three)), True)
        self.assertIs(is_fraction((-2 ** 190, three)), True)
        self.assertIs(is_fraction((3 * 2 ** 180, three)), False)
        self.assertIs(is_fraction((7 ** 4000, 5 ** 4000)), True)

    def test_only_tuples_of_two_whole_numbers(self):
        for thing in NO_TUPLES + ((), (1,), (1, 1, 1), [1, 1], "11", (1, "1"), (None, 1), (1, None), ((1, 1), 1),
                                  (True, 1), (1, True), (False, 1), (1, [1]), {1: 1}, (1, {})):
            with self.subTest(thing=thing):
                self.assertIs(is_fraction(thing), False)

    def test_the_greatest_that_divides_both(self):
        for one in range(25):
            for other in range(25):
                self.assertEqual(common_divisor(one, other), math.gcd(one, other))

    def test_sums_and_order_as_those_of_pythons_fractions(self):
        some = [(top, bottom) for top in range(-4, 5) for bottom in range(1, 5) if math.gcd(top, bottom) == 1]
        for one, other in itertools.product(some, repeat=2):
            right = fractions.Fraction(*one) + fractions.Fraction(*other)
            self.assertEqual(sum_of([one, other]), (right.numerator, right.denominator))
            self.assertIs(is_less(one, other), fractions.Fraction(*one) < fractions.Fraction(*other))
        self.assertEqual(sum_of([]), (0, 1))
        self.assertEqual(sum_of(some + [(1, 6)]), (1, 6))
        for top in range(-9, 10):
            for bottom in range(1, 10):
                right = fractions.Fraction(top, bottom)
                self.assertEqual(fraction_of(top, bottom), (right.numerator, right.denominator))


if __name__ == "__main__":
    unittest.main()
