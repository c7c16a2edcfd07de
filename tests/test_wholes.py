"""Whole numbers of pieces that would do, and hues against them: point 18, and 4 of them."""

import copy
import itertools
import random
import unittest

from eachonce.wholes import are_hues, are_wholes, wholes
from samples import LONGEST, all_coverings, big_boxes, made_box, odd_things, small_boxes, soon

# Thing 1 is a may.
MAY = (3, (1,), (((0, 1), 1), ((1, 2), 1), ((0,), 1)))
# Each two of three musts: the pieces hold an even count of things.
PAIRS = (3, (), (((0, 1), 1), ((1, 2), 1), ((0, 2), 1)))
# Wholes with one below 0, but no covering.
BELOW = (4, (), (((0, 1, 2), 1), ((0, 3), 1), ((0,), 1)))
# A must that no piece holds.
LONELY = (2, (), (((0,), 1),))
NOTHING = (0, (), ())


def are_wholes_by_words(box, thing):
    if thing.__class__ is not tuple or len(thing) != len(box[2]) or any(part.__class__ is not int for part in thing):
        return False
    held = [0] * box[0]
    for number, (things, weight) in zip(thing, box[2]):
        for one in things:
            held[one] += number
    return all(held[one] == 1 or one in box[1] for one in range(box[0]))


def are_hues_by_words(box, thing):
    if thing.__class__ is not tuple or len(thing) != 2:
        return False
    modulus, numbers = thing
    if modulus.__class__ is not int or modulus < 2 or numbers.__class__ is not tuple or len(numbers) != box[0]:
        return False
    if any(number.__class__ is not int or number not in range(modulus) for number in numbers):
        return False
    if any(numbers[may] for may in box[1]):
        return False
    return sum(numbers) % modulus != 0 and all(sum(numbers[one] for one in held) % modulus == 0 for held, _ in box[2])


def lots_of_length(things, length, pieces, chance):
    """A box of pieces of one length, a ring of them first, all weighing nothing."""
    lots = [tuple(sorted([(start + step) % things for step in range(length)])) for start in range(things)]
    lots += [tuple(sorted(chance.sample(range(things), length))) for _ in range(pieces - things)]
    return (things, (), tuple([(lot, 0) for lot in lots]))


class AreWholes(unittest.TestCase):
    def assert_told(self, box, thing, right):
        with self.subTest(box=box, thing=repr(thing)[:200]):
            kept = repr(thing)
            self.assertIs(are_wholes(box, thing), right)
            self.assertEqual(repr(thing), kept)

    def test_plain(self):
        self.assert_told(BELOW, (1, 1, -1), True)
        self.assert_told(PAIRS, (1, 0, 0), False)
        self.assert_told(PAIRS, (1, 1, 0), False)
        self.assert_told(NOTHING, (), True)
        self.assert_told((2, (0, 1), ()), (), True)
        self.assert_told(LONELY, (1,), False)
        self.assert_told((1, (), ()), (), False)

    def test_each_must_comes_to_one_and_mays_count_for_nothing(self):
        for first in range(-3, 4):
            # The may comes to first and 1 together.
            self.assert_told(MAY, (first, 1, 1 - first), True)
            self.assert_told(MAY, (first, 1, -first), False)
            self.assert_told(MAY, (first, 1, 2 - first), False)
            self.assert_told(MAY, (first, 0, 1 - first), False)
            self.assert_told(MAY, (first, 2, 1 - first), False)
            self.assert_told(MAY, (first, -1, 1 - first), False)
        self.assert_told(MAY, (LONGEST, 1, 1 - LONGEST), True)
        self.assert_told(MAY, (LONGEST, 1, -LONGEST), False)
        self.assert_told(MAY, (-LONGEST, 1, LONGEST), False)
        self.assert_told((1, (0,), (((0,), 1), ((0,), 1))), (LONGEST, LONGEST), True)
        self.assert_told((1, (0,), (((0,), 1),)), (-5,), True)

    def test_lengths_one_off_lists_truths_and_fractions(self):
        for thing in ((0, 1), (0, 1, 1, 0), (0, 1, 1, 1), [0, 1, 1], (), (1,), ((0, 1, 1),), {0: 0, 1: 1, 2: 1},
                      (False, 1, 1), (0, True, 1), (0, 1, True), (None, 1, 1), (0, 1, None), (0, 1, "1"),
                      ((0, 1), (1, 1), (1, 1)), (0, (1, 1), 1), (0, 1, [1]), "011", None, True, False, 1, 0):
            self.assert_told(MAY, thing, False)
        # Where no must hangs on it, too.
        for thing in ((True,), (None,), ((1, 1),), [1], (1, 1), (), ("1",), ((),)):
            self.assert_told((1, (0,), (((0,), 1),)), thing, False)
        for thing in ((0,), [], {}, None, "", False, 0):
            self.assert_told(NOTHING, thing, False)

    def test_all_small_numbers(self):
        for box in small_boxes():
            if len(box[2]) <= 5:
                for thing in itertools.product(range(-1, 3), repeat=len(box[2])):
                    self.assertIs(are_wholes(box, thing), are_wholes_by_words(box, thing), (box, thing))

    def test_of_anything(self):
        for odd in odd_things() + [True, False, 0, 1]:
            for thing in (odd, (odd,) * 3, (0, 1, odd), (odd, 1, 1), (odd, 1), [odd], {0: odd}, ((0, 1, 1), odd)):
                for box in (MAY, PAIRS, NOTHING, (1, (0,), (((0,), 0),) * 3)):
                    self.assert_told(box, thing, are_wholes_by_words(box, thing))


class AreHues(unittest.TestCase):
    def assert_told(self, box, thing, right):
        with self.subTest(box=box, thing=repr(thing)[:200]):
            kept = repr(thing)
            self.assertIs(are_hues(box, thing), right)
            self.assertEqual(repr(thing), kept)

    def test_plain(self):
        self.assert_told(PAIRS, (2, (1, 1, 1)), True)
        self.assert_told(PAIRS, (4, (2, 2, 2)), True)
        self.assert_told(PAIRS, (LONGEST - 1, ((LONGEST - 1) // 2,) * 3), True)
        self.assert_told(LONELY, (2, (0, 1)), True)
        self.assert_told(LONELY, (LONGEST, (0, LONGEST - 1)), True)
        self.assert_told((1, (), ()), (7, (3,)), True)
        self.assert_told((1, (0,), ()), (7, (3,)), False)
        self.assert_told(NOTHING, (2, ()), False)

    def test_the_modulus(self):
        for modulus in (1, 0, -1, -2, True, False, None, "2", (2,), (2, 1), [2], {}):
            self.assert_told(PAIRS, (modulus, (1, 1, 1)), False)
            self.assert_told(PAIRS, (modulus, (0, 0, 0)), False)
            self.assert_told(LONELY, (modulus, (0, 1)), False)
            self.assert_told((1, (), ()), (modulus, (0,)), False)
        self.assert_told(PAIRS, (-2, (-1, -1, -1)), False)

    def test_numbers_from_nought_to_the_modulus_less_one(self):
        for number in range(-7, 8):
            self.assert_told(LONELY, (3, (0, number)), number in (1, 2))
            self.assert_told(LONELY, (2, (0, number)), number == 1)
        self.assert_told(PAIRS, (2, (1, 1, 3)), False)
        self.assert_told(PAIRS, (2, (1, -1, 1)), False)
        self.assert_told(LONELY, (2, (2, 1)), False)
        self.assert_told(LONELY, (2, (-2, 1)), False)
        self.assert_told(LONELY, (LONGEST, (0, LONGEST)), False)

    def test_a_may_has_nought(self):
        box = (4, (3,), PAIRS[2])
        self.assert_told(box, (4, (2, 2, 2, 0)), True)
        for number in (1, 2, 3):
            self.assert_told(box, (4, (2, 2, 2, number)), False)
        self.assert_told(box, (4, (2, 2, 2, False)), False)
        self.assert_told(box, (4, (0, 0, 0, 1)), False)
        self.assert_told((2, (1,), (((0, 1), 0),)), (2, (1, 1)), False)
        self.assert_told((2, (0, 1), ()), (2, (1, 0)), False)

    def test_each_piece_comes_to_a_multiple_and_all_together_do_not(self):
        self.assert_told(PAIRS, (2, (0, 0, 0)), False)
        self.assert_told(PAIRS, (2, (1, 1, 0)), False)
        self.assert_told(PAIRS, (2, (0, 1, 1)), False)
        self.assert_told(PAIRS, (2, (1, 0, 1)), False)
        self.assert_told(PAIRS, (3, (1, 1, 1)), False)
        self.assert_told(PAIRS, (3, (1, 2, 1)), False)
        self.assert_told(PAIRS, (6, (3, 3, 3)), True)
        self.assert_told((4, (), (((0, 1), 1), ((2, 3), 1))), (2, (1, 1, 1, 1)), False)
        self.assert_told((4, (), (((0, 1), 1), ((2,), 1))), (2, (1, 1, 0, 1)), True)
        self.assert_told((4, (), (((0, 1), 1), ((2,), 1))), (2, (1, 1, 1, 1)), False)
        # The last piece alone does not.
        self.assert_told((3, (), PAIRS[2] + (((1,), 1),)), (2, (1, 1, 1)), False)

    def test_lengths_one_off_lists_and_truths(self):
        for thing in ((2, (1, 1)), (2, (1, 1, 1, 0)), (2, (1, 1, 1, 1)), (2, ()), (2, [1, 1, 1]), [2, (1, 1, 1)],
                      (2,), (2, (1, 1, 1), 0), (2, (1, 1, 1), ()), (2, 1, 1, 1), (), ((1, 1, 1), 2), (2, (True, 1, 1)),
                      (2, (1, 1, True)), (2, (1, None, 1)), (2, (1, "1", 1)), (2, ((1,), 1, 1)), (2, "111"),
                      (2, {0: 1, 1: 1, 2: 1}), {2: (1, 1, 1)}, (1, 1, 1), "2", 2, None, True, False, (2, None), (2, 1),
                      ((2, (1, 1, 1)),)):
            self.assert_told(PAIRS, thing, False)
        for thing in ((2, (0,)), (2, []), (2, ()), (2, None), ()):
            self.assert_told(NOTHING, thing, False)

    def test_all_small_numbers(self):
        for box in small_boxes():
            if box[0] <= 4:
                for modulus in range(1, 5):
                    for numbers in itertools.product(range(-1, modulus + 1), repeat=box[0]):
                        thing = (modulus, numbers)
                        self.assertIs(are_hues(box, thing), are_hues_by_words(box, thing), (box, thing))

    def test_of_anything(self):
        for odd in odd_things() + [True, False, 0, 1]:
            for thing in (odd, (odd,) * 2, (2, odd), (odd, (1, 1, 1)), (2, (1, 1, odd)), (2, (odd, 1, 1)), (2, (odd,)),
                          (odd, odd, odd), [odd], {0: odd}, (odd, ()), (2, (0, odd))):
                for box in (PAIRS, LONELY, NOTHING, (1, (), ())):
                    self.assert_told(box, thing, are_hues_by_words(box, thing))


class Wholes(unittest.TestCase):
    def check(self, box):
        with self.subTest(box=box):
            told = soon(self, wholes, box)
            self.assertEqual((told.__class__, len(told), told[1].__class__), (tuple, 2, tuple))
            self.assertIn(told[0], ("wholes", "hues"))
            # Each answer is what it is told to be, by the words, by what is asked of it, and not the other.
            self.assertIs(are_wholes_by_words(box, told[1]), told[0] == "wholes")
            self.assertIs(are_hues_by_words(box, told[1]), told[0] == "hues")
            self.assertIs(are_wholes(box, told[1]), told[0] == "wholes")
            self.assertIs(are_hues(box, told[1]), told[0] == "hues")
            return told[0]

    def test_boxes_of_each_kind(self):
        self.assertEqual(wholes(NOTHING), ("wholes", ()))
        self.assertEqual(wholes((2, (0, 1), ())), ("wholes", ()))
        self.assertEqual(wholes(BELOW), ("wholes", (1, 1, -1)))
        self.assertEqual(self.check(MAY), "wholes")
        self.assertEqual(self.check(PAIRS), "hues")
        self.assertEqual(self.check(LONELY), "hues")
        self.assertEqual(self.check((1, (), ())), "hues")
        self.assertEqual(self.check((16, (), ())), "hues")
        self.assertEqual(self.check((16, tuple(range(15)), ())), "hues")
        self.assertEqual(self.check((16, tuple(range(16)), ())), "wholes")

    def test_mays_count_for_nothing(self):
        # A may that all pieces hold, so that there is no covering; the same without it, and as a must.
        self.assertEqual(self.check((3, (2,), (((0, 2), 1), ((1, 2), 1)))), "wholes")
        self.assertEqual(self.check((3, (), (((0, 2), 1), ((1, 2), 1)))), "hues")
        self.assertEqual(self.check((3, (2,), (((0,), 1), ((1,), 1)))), "wholes")
        self.assertEqual(self.check((3, (), (((0,), 1), ((1,), 1)))), "hues")
        # A third must in each of the pairs' pieces, and a may.
        self.assertEqual(self.check((4, (3,), (((0, 1, 3), 1), ((1, 2, 3), 1), ((0, 2, 3), 1)))), "hues")
        self.assertEqual(self.check((4, (), (((0, 1, 3), 1), ((1, 2, 3), 1), ((0, 2, 3), 1)))), "hues")
        self.assertEqual(self.check((4, (0,), (((0, 1, 3), 1), ((1, 2, 3), 1), ((0, 2, 3), 1)))), "wholes")

    def test_small_boxes(self):
        chance = random.Random(17)
        made = [made_box(chance, 5, 7, 4) for _ in range(120)]
        kinds = {}
        for box in small_boxes() + made + [(box[0], box[1][:1], box[2]) for box in made]:
            coverings = all_coverings(box)
            for covering in coverings:
                row = tuple([1 if number in covering else 0 for number in range(len(box[2]))])
                self.assertIs(are_wholes(box, row), True)
            kind = (self.check(box), len(coverings) > 0)
            kinds[kind] = kinds.get(kind, 0) + 1
        self.assertGreater(min(kinds[("wholes", True)], kinds[("hues", False)]), 20)
        self.assertGreater(kinds[("wholes", False)], 5)
        self.assertNotIn(("hues", True), kinds)

    def test_never_both(self):
        for box in small_boxes():
            told = wholes(box)[0]
            if told == "wholes" and box[0] <= 4:
                for modulus in range(2, 6):
                    for numbers in itertools.product(range(modulus), repeat=box[0]):
                        self.assertIs(are_hues(box, (modulus, numbers)), False, (box, modulus, numbers))
            elif told == "hues" and len(box[2]) <= 5:
                for thing in itertools.product(range(-2, 3), repeat=len(box[2])):
                    self.assertIs(are_wholes(box, thing), False, (box, thing))

    def test_the_order_of_the_pieces_counts_for_nothing(self):
        for box in small_boxes():
            turned = (box[0], box[1], box[2][::-1])
            self.assertEqual(self.check(turned), wholes(box)[0])

    def test_moduli_that_are_no_primes(self):
        # Each four of six things: by 4, but by no prime, since all numbers must be alike then.
        fours = (6, (), tuple([(lot, 0) for lot in itertools.combinations(range(6), 4)]))
        self.assertEqual(self.check(fours), "hues")
        self.assertEqual(wholes(fours)[1][0] % 4, 0)
        for modulus in (2, 3, 5):
            for numbers in itertools.product(range(modulus), repeat=6):
                self.assertIs(are_hues(fours, (modulus, numbers)), False)
        chance = random.Random(18)
        for things, length, divisor in ((12, 8, 8), (12, 9, 9), (15, 9, 9), (14, 4, 4), (12, 8, 8), (15, 6, 2)):
            box = lots_of_length(things, length, 32, chance)
            self.assertEqual(self.check(box), "hues", (things, length))
            self.assertEqual(wholes(box)[1][0] % divisor, 0, (things, length))

    def test_lengths_that_go_into_the_count_of_things_or_do_not(self):
        chance = random.Random(19)
        for things in (8, 12, 15, 16):
            for length in range(2, 8):
                told = self.check(lots_of_length(things, length, 32, chance))
                self.assertTrue(told == "hues" or things % length == 0, (things, length))

    def test_musts_that_hang_on_those_ahead_of_them(self):
        # What an earlier must's pieces have in common counts when a later must is not come by.
        for lots in (((1, 3, 4), (0, 1, 4), (0, 2, 4), (1, 2)), ((0, 1, 4), (0, 2, 5), (1, 2, 4), (1, 3, 5), (0, 2, 5)),
                     ((0, 1, 5, 6), (1, 3, 4, 6), (1, 2, 4, 6), (0, 2, 4, 6)),
                     ((0, 2, 4, 5), (0, 2, 5, 6), (2, 3, 4, 5), (3, 4, 5, 6), (0, 1, 4, 6), (0, 1, 3, 5), (0, 2, 3, 6)),
                     ((0, 1, 4, 5), (0, 3, 4, 6), (1, 2, 3, 6), (0, 1, 3, 5), (2, 3, 4, 5), (1, 2, 5, 6), (0, 2, 4, 6)),
                     ((1, 3, 4, 5), (0, 3, 4, 6), (1, 2, 3, 6), (0, 1, 2, 4), (1, 3, 4, 6), (0, 4, 5, 6), (0, 1, 3, 5))
                     ):
            things = 1 + max(thing for lot in lots for thing in lot)
            self.assertEqual(self.check((things, (), tuple([(lot, 0) for lot in lots]))), "hues")
        chance = random.Random(16)
        for _ in range(3000):
            things = chance.randint(4, 8)
            length = chance.randint(2, min(things, 6))
            lots = []
            for _ in range(chance.randint(3, 12)):
                held = chance.sample(range(things), length if chance.random() < 0.9 else chance.randint(1, things))
                lots.append(tuple(sorted(held)))
            self.check((things, (), tuple([(lot, 0) for lot in lots])))

    def test_big_boxes(self):
        chance = random.Random(20)
        told = [self.check(box) for box in big_boxes()]
        for pieces in (8, 14, 16, 18, 24, 32, 32):
            for longest in (1, 2, 3, 4, 5, 8, 12, 16):
                made = made_box(chance, 16, pieces, longest)
                told.append(self.check(made))
                told.append(self.check((16, (), made[2])))
                told.append(self.check((16, (3,), tuple([piece for piece in made[2] if len(piece[0]) > 1]))))
        self.assertGreater(min(told.count("wholes"), told.count("hues")), 30)

    def test_somewhat_beyond_the_bounds(self):
        self.assertEqual(self.check((18, (17,), tuple([((number % 17,), 10 ** 13) for number in range(35)]))), "wholes")
        self.assertEqual(self.check((18, (), tuple([((number % 17,), 10 ** 13) for number in range(35)]))), "hues")

    def test_the_same_answer_again_and_nothing_changed(self):
        for box in small_boxes()[:40] + big_boxes():
            kept = copy.deepcopy(box)
            self.assertEqual(wholes(box), wholes(box))
            self.assertEqual(box, kept)

    def test_weights_count_for_nothing(self):
        for box in small_boxes():
            heavy = (box[0], box[1], tuple([(things, 10 ** 12 - weight) for things, weight in box[2]]))
            self.assertEqual(wholes(heavy)[0], wholes(box)[0])


if __name__ == "__main__":
    unittest.main()
