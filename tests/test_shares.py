"""Shares, and what speaks against them: point 17, and 4 of them."""

import copy
import itertools
import random
import unittest
from fractions import Fraction

from eachonce.shares import are_shares, shares, speaks_against
from samples import (
    LONGEST, NO_FRACTIONS, all_coverings, big_boxes, is_fraction_by_words, made_box, odd_things, small_boxes, soon,
)

NOUGHT = (0, 1)
ONE = (1, 1)
HALF = (1, 2)
SMALL = (1, 10 ** 59)
OVER = (10 ** 59 + 1, 10 ** 59)
UNDER = (10 ** 59 - 1, 10 ** 59)

# Thing 1 is a may.
MAY = (2, (1,), (((0,), 1), ((0, 1), 1), ((1,), 1)))
# Each two of three: shares, but no covering.
PAIRS = (3, (), (((0, 1), 1), ((1, 2), 1), ((0, 2), 1)))
# Things 0 and 2 with thing 1 alone: no shares either.
FORK = (3, (), (((0, 1), 1), ((1, 2), 1)))


def are_shares_by_words(box, numbers):
    """Of Python's fractions or whole numbers, one for each piece."""
    if any(number < 0 for number in numbers):
        return False
    for thing in range(box[0]):
        held = sum(number for number, piece in zip(numbers, box[2]) if thing in piece[0])
        if held > 1 or held < 1 and thing not in box[1]:
            return False
    return True


def right_of_anything(box, thing):
    if thing.__class__ is not tuple or len(thing) != len(box[2]) or not all(map(is_fraction_by_words, thing)):
        return False
    return are_shares_by_words(box, [Fraction(*share) for share in thing])


def speaks_by_words(box, numbers):
    return (
        sum(numbers) > 0 and all(numbers[may] <= 0 for may in box[1])
        and all(sum(numbers[thing] for thing in things) <= 0 for things, weight in box[2])
    )


class AreShares(unittest.TestCase):
    def assert_told(self, box, thing, right):
        with self.subTest(box=box, thing=repr(thing)[:200]):
            kept = repr(thing)
            self.assertIs(are_shares(box, thing), right)
            self.assertEqual(repr(thing), kept)

    def test_plain(self):
        for thing in ((ONE, NOUGHT, NOUGHT), (NOUGHT, ONE, NOUGHT), (ONE, NOUGHT, ONE), (HALF, HALF, HALF),
                      (HALF, HALF, NOUGHT), ((2, 3), (1, 3), (2, 3)), ((2, 3), (1, 3), (1, 7))):
            self.assert_told(MAY, thing, True)
        self.assert_told(PAIRS, (HALF, HALF, HALF), True)
        self.assert_told((0, (), ()), (), True)
        self.assert_told((2, (0, 1), ()), (), True)
        self.assert_told((1, (), ()), (), False)

    def test_each_bound_just_met_and_just_missed(self):
        # The must comes to 1.
        self.assert_told(MAY, (UNDER, SMALL, NOUGHT), True)
        self.assert_told(MAY, (ONE, SMALL, NOUGHT), False)
        self.assert_told(MAY, (UNDER, NOUGHT, NOUGHT), False)
        self.assert_told(MAY, (OVER, NOUGHT, NOUGHT), False)
        self.assert_told(MAY, (NOUGHT, NOUGHT, NOUGHT), False)
        # The may comes to 1 at most.
        self.assert_told(MAY, (UNDER, SMALL, UNDER), True)
        self.assert_told(MAY, (NOUGHT, ONE, SMALL), False)
        self.assert_told(MAY, (HALF, HALF, ((10 ** 58 + 2) // 2, 10 ** 58)), False)
        self.assert_told(MAY, (ONE, NOUGHT, ONE), True)
        self.assert_told(MAY, (ONE, NOUGHT, OVER), False)
        # None is below 0.
        self.assert_told(MAY, (OVER, (-1, 10 ** 59), NOUGHT), False)
        self.assert_told(MAY, (ONE, NOUGHT, (-1, 10 ** 59)), False)
        self.assert_told(MAY, ((2, 1), (-1, 1), ONE), False)

    def test_what_is_no_fraction(self):
        for wrong in NO_FRACTIONS:
            self.assert_told(MAY, (ONE, NOUGHT, wrong), False)
            self.assert_told(MAY, (ONE, wrong, NOUGHT), False)
            self.assert_told(MAY, (wrong, NOUGHT, NOUGHT), False)
        self.assert_told(MAY, ((2, 4), HALF, NOUGHT), False)
        self.assert_told(MAY, ((True, 2), HALF, NOUGHT), False)

    def test_lengths_one_off_and_lists(self):
        for thing in ((ONE,), (ONE, NOUGHT), (ONE, NOUGHT, NOUGHT, NOUGHT), (), [ONE, NOUGHT, NOUGHT],
                      ((ONE, NOUGHT, NOUGHT),), {0: ONE}, (ONE, NOUGHT, NOUGHT, None)):
            self.assert_told(MAY, thing, False)
        self.assert_told((0, (), ()), (NOUGHT,), False)
        self.assert_told((0, (), ()), [], False)

    def test_all_shares_by_halves_and_thirds(self):
        numbers = [Fraction(top, 6) for top in (-1, 0, 2, 3, 4, 6, 7)]
        for box in small_boxes():
            if len(box[2]) <= 4:
                for some in itertools.product(numbers, repeat=len(box[2])):
                    thing = tuple([(number.numerator, number.denominator) for number in some])
                    self.assertIs(are_shares(box, thing), are_shares_by_words(box, some), (box, thing))

    def test_each_covering_is_shares(self):
        for box in small_boxes():
            for covering in all_coverings(box):
                thing = tuple([ONE if number in covering else NOUGHT for number in range(len(box[2]))])
                self.assert_told(box, thing, True)
                self.assertEqual(shares(box)[0], "shares")

    def test_of_anything(self):
        for odd in odd_things() + [True, False, 0, 1]:
            for thing in (odd, (odd,) * 3, (ONE, NOUGHT, odd), (odd, ONE, NOUGHT), (ONE, NOUGHT, (odd, 1)),
                          (ONE, NOUGHT, (0, odd)), (ONE, odd), [odd], {0: odd}):
                for box in (MAY, PAIRS, (0, (), ())):
                    self.assert_told(box, thing, right_of_anything(box, thing))


class SpeaksAgainst(unittest.TestCase):
    def assert_told(self, box, thing, right):
        with self.subTest(box=box, thing=repr(thing)[:200]):
            kept = repr(thing)
            self.assertIs(speaks_against(box, thing), right)
            self.assertEqual(repr(thing), kept)

    def test_plain(self):
        self.assert_told(FORK, (1, -1, 1), True)
        self.assert_told(FORK, (5, -5, 5), True)
        self.assert_told(FORK, (LONGEST, -LONGEST, 1), True)
        self.assert_told((1, (), ()), (1,), True)
        self.assert_told((1, (0,), ()), (1,), False)
        self.assert_told((0, (), ()), (), False)

    def test_each_bound_just_met_and_just_missed(self):
        # Each piece comes to 0 at most.
        self.assert_told(FORK, (2, -1, 1), False)
        self.assert_told(FORK, (1, -1, 2), False)
        self.assert_told(FORK, (LONGEST, 1 - LONGEST, 1), False)
        # All together are above 0.
        self.assert_told(FORK, (1, -2, 1), False)
        self.assert_told(FORK, (0, 0, 0), False)
        self.assert_told(FORK, (1, -1, 0), False)
        self.assert_told(FORK, (LONGEST, -LONGEST, 0), False)
        # No may is above 0.
        box = (4, (3,), FORK[2])
        self.assert_told(box, (1, -1, 1, 0), True)
        self.assert_told(box, (1, -1, 1, -1), False)
        self.assert_told(box, (2, -2, 2, -1), True)
        self.assert_told(box, (1, -1, 1, 1), False)
        self.assert_told(box, (0, 0, 0, 1), False)

    def test_truths_lists_and_lengths_one_off(self):
        for thing in ((True, -1, 1), (1, -1, True), (1, -1), (1, -1, 1, 0), (1, -1, 1, 1), [1, -1, 1], (), (1,),
                      ((1, 1), (-1, 1), (1, 1)), ((1, -1, 1),), "1-1", {0: 1}, (1, -1, None), (1, -1, "1"),
                      (1, None, 1)):
            self.assert_told(FORK, thing, False)
        self.assert_told((2, (1,), ()), (1, False), False)
        self.assert_told((2, (1,), ()), (1, 0), True)
        self.assert_told((0, (), ()), (1,), False)

    def test_all_small_numbers(self):
        for box in small_boxes():
            if box[0] <= 4:
                for thing in itertools.product(range(-2, 3), repeat=box[0]):
                    self.assertIs(speaks_against(box, thing), speaks_by_words(box, thing), (box, thing))

    def test_of_anything(self):
        for odd in odd_things() + [True, False]:
            for thing in (odd, (odd,) * 3, (1, -1, odd), (odd, -1, 1), (1, odd, 1), (1, odd), [odd], {0: odd}):
                self.assert_told(FORK, thing, False)
                self.assert_told((0, (), ()), thing, False)


class Shares(unittest.TestCase):
    def check(self, box):
        with self.subTest(box=box):
            told = soon(self, shares, box)
            self.assertEqual((told.__class__, len(told), told[1].__class__), (tuple, 2, tuple))
            self.assertIn(told[0], ("shares", "against"))
            # Each answer is what it is told to be, and not the other.
            self.assertIs(are_shares(box, told[1]), told[0] == "shares")
            self.assertIs(speaks_against(box, told[1]), told[0] == "against")
            if told[0] == "shares":
                self.assertTrue(are_shares_by_words(box, [Fraction(*share) for share in told[1]]))
            else:
                self.assertTrue(speaks_by_words(box, told[1]))
            return told[0]

    def test_boxes_of_each_kind(self):
        self.assertEqual(shares((0, (), ())), ("shares", ()))
        self.assertEqual(shares((2, (0, 1), ())), ("shares", ()))
        self.assertEqual(self.check((1, (), ())), "against")
        self.assertEqual(self.check((16, (), ())), "against")
        self.assertEqual(self.check((16, tuple(range(1, 16)), ())), "against")
        self.assertEqual(self.check(MAY), "shares")
        self.assertEqual(shares(PAIRS), ("shares", (HALF, HALF, HALF)))
        self.assertEqual(self.check(FORK), "against")
        # Both musts would hold the may.
        self.assertEqual(self.check((3, (2,), (((0, 2), 1), ((1, 2), 1)))), "against")
        self.assertEqual(self.check((3, (2,), (((0, 2), 1), ((1, 2), 1), ((0, 1, 2), 1)))), "shares")

    def test_small_boxes(self):
        kinds = {}
        for box in small_boxes():
            kind = (self.check(box), len(all_coverings(box)) > 0)
            kinds[kind] = kinds.get(kind, 0) + 1
        self.assertGreater(min(kinds[("shares", True)], kinds[("against", False)]), 20)
        self.assertNotIn(("against", True), kinds)

    def test_never_both(self):
        halves = [Fraction(top, 2) for top in (0, 1, 2)]
        for box in small_boxes():
            told = shares(box)[0]
            if told == "shares" and box[0] <= 5:
                for thing in itertools.product(range(-2, 3), repeat=box[0]):
                    self.assertIs(speaks_against(box, thing), False)
            elif told == "against" and len(box[2]) <= 6:
                for some in itertools.product(halves, repeat=len(box[2])):
                    thing = tuple([(number.numerator, number.denominator) for number in some])
                    self.assertIs(are_shares(box, thing), False)

    def test_weights_count_for_nothing(self):
        for box in small_boxes():
            heavy = (box[0], box[1], tuple([(things, 10 ** 12 - weight) for things, weight in box[2]]))
            self.assertEqual(shares(box), shares(heavy))

    def test_shares_without_a_covering(self):
        # An odd ring of pairs: a half of each.
        for things in (3, 5, 7, 9, 15):
            ring = tuple([(tuple(sorted([thing, (thing + 1) % things])), 1) for thing in range(things)])
            self.assertEqual(shares((things, (), ring)), ("shares", (HALF,) * things))
        # Each three of four: a third of each.
        threes = tuple([(lot, 1) for lot in itertools.combinations(range(4), 3)])
        self.assertEqual(shares((4, (), threes)), ("shares", ((1, 3),) * 4))

    def test_big_boxes(self):
        chance = random.Random(17)
        told = [self.check(box) for box in big_boxes()]
        for _ in range(60):
            made = made_box(chance, 16, 32, chance.choice((2, 3, 4, 5, 8, 16)))
            told.append(self.check(made))
            told.append(self.check((16, (), made[2])))
            told.append(self.check((16, (3,), tuple([piece for piece in made[2] if len(piece[0]) > 1]))))
        self.assertGreater(min(told.count("shares"), told.count("against")), 15)

    def test_big_boxes_of_pieces_of_one_length(self):
        chance = random.Random(18)
        told = []
        for length in (2, 4, 3, 5, 8):
            for _ in range(15):
                lots = [tuple(sorted(chance.sample(range(16), length))) for _ in range(32)]
                told.append(self.check((16, (), tuple([(lot, 0) for lot in lots]))))
                told.append(self.check((16, (0, 5, 9), tuple([(lot, 0) for lot in lots]))))
        self.assertGreater(min(told.count("shares"), told.count("against")), 15)

    def test_somewhat_beyond_the_bounds(self):
        self.check((18, (17,), tuple([((number % 18,), 10 ** 13) for number in range(35)])))
        self.check((18, (), tuple([((number % 17,), 10 ** 13) for number in range(35)])))

    def test_the_same_answer_again_and_nothing_changed(self):
        for box in small_boxes()[:30]:
            kept = copy.deepcopy(box)
            self.assertEqual(shares(box), shares(box))
            self.assertEqual(box, kept)


if __name__ == "__main__":
    unittest.main()
