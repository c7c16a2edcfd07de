"""How many coverings there are, by sizes, weights and lots: points 9, 10 and 12, and 4 of these."""

import copy
import random
import unittest

from eachonce.counts import many_by_lots, sizes, ways_to_hold, weights
from eachonce.coverings import many
from eachonce.errors import TooMany
from samples import (
    BIG_BLOCKS, BIG_RING, BIG_SINGLES, BLOCKS, HAND_MADE, all_coverings, assert_refused, big_boxes, in_a_row,
    made_box, small_boxes, soon, weight_of,
)

END = 10 ** 12
# 10 ways each, in a row: 1000 coverings.
TEN_WAYS = (1, (0,), tuple([((0,), weight) for weight in (-4, -3, -2, 0, 0, 1, 2, 3, 4)]))
THOUSAND = in_a_row([TEN_WAYS] * 3)
NONE = (3, (), (((0, 1), 1), ((1, 2), 1), ((0, 2), 1)))


def sizes_one_by_one(box):
    told = [len(covering) for covering in all_coverings(box)]
    return [told.count(size) for size in range(max(told, default=-1) + 1)]


def weights_one_by_one(box):
    told = [weight_of(box, covering) for covering in all_coverings(box)]
    return [(weight, told.count(weight)) for weight in sorted(set(told))]


def product(one, other):
    told = [0] * (len(one) + len(other) - 1)
    for size, count in enumerate(one):
        for more, times in enumerate(other):
            told[size + more] += count * times
    return told


class Sizes(unittest.TestCase):
    def test_plain(self):
        self.assertEqual(sizes((2, (1,), (((0,), 1), ((0, 1), 1), ((1,), 1)))), [0, 2, 1])
        self.assertEqual(sizes((0, (), ())), [1])
        self.assertEqual(sizes((2, (0, 1), ())), [1])
        self.assertEqual(sizes((2, (0,), ())), [])
        self.assertEqual(sizes(NONE), [])
        # No covering of size 1 or 2 though there is one of 3.
        self.assertEqual(sizes((3, (), (((0,), 1), ((1,), 1), ((2,), 1)))), [0, 0, 0, 1])

    def test_against_all_coverings(self):
        for box in small_boxes():
            with self.subTest(box=box):
                told = sizes(box)
                self.assertIs(told.__class__, list)
                self.assertEqual(told, sizes_one_by_one(box))
                self.assertEqual(sum(told), many(box))

    def test_big_boxes(self):
        for box in big_boxes():
            told = soon(self, sizes, box)
            self.assertEqual(sum(told), many(box))
            self.assertGreater(told[-1], 0)
        together = [1]
        for block in BLOCKS:
            together = product(together, sizes_one_by_one(block))
        self.assertEqual(sizes(BIG_BLOCKS), together)
        together = [1]
        for _ in range(16):
            together = product(together, [1, 2])
        self.assertEqual(sizes(BIG_SINGLES), together)
        # Of the ring's pieces one alone, and eight pairs beside the sixteen things by themselves.
        self.assertEqual((sizes(BIG_RING)[:2], sizes(BIG_RING)[16:]), ([1, 32], [1]))

    def test_the_told_list_is_the_askers_own(self):
        for box in (HAND_MADE[0], HAND_MADE[2], HAND_MADE[8], NONE, BIG_SINGLES):
            right = list(sizes(box))
            told = sizes(box)
            told.append(7)
            told[0] = -1
            self.assertEqual(sizes(box), right)
            self.assertEqual(sizes(copy.deepcopy(box)), right)


class Weights(unittest.TestCase):
    def test_plain(self):
        self.assertEqual(weights((0, (), ())), [(0, 1)])
        self.assertEqual(weights((1, (0,), ())), [(0, 1)])
        self.assertEqual(weights((1, (), ())), [])
        self.assertEqual(weights(NONE), [])
        self.assertEqual(weights((1, (0,), (((0,), 5), ((0,), -5), ((0,), 5), ((0,), 0)))), [(-5, 1), (0, 2), (5, 2)])
        self.assertEqual(weights((2, (), (((0,), END), ((1,), END), ((0, 1), -END)))), [(-END, 1), (2 * END, 1)])

    def test_against_all_coverings(self):
        for box in small_boxes():
            with self.subTest(box=box):
                told = weights(box)
                self.assertEqual(repr(told), repr(weights_one_by_one(box)))
                self.assertEqual(sum([count for weight, count in told]), many(box))

    def test_a_thousand_coverings_and_one_more(self):
        self.assertEqual(many(THOUSAND), 1000)
        told = weights(THOUSAND)
        self.assertEqual(sum([count for weight, count in told]), 1000)
        self.assertEqual((told[0], told[-1]), ((-12, 1), (12, 1)))

    def test_up_to_1000_and_from_1001_on(self):
        for ways, refused in (((9, 10, 11), False), ((10, 10, 10), False), ((7, 11, 13), True), ((2, 3, 13, 13), True)):
            box = in_a_row([(1, (0,), (((0,), 2),) * (way - 1)) for way in ways])
            if refused:
                assert_refused(self, TooMany, weights, box)
            else:
                self.assertEqual(sum([count for weight, count in weights(box)]), many(box))

    def test_big_boxes_are_refused_soon(self):
        for box in big_boxes():
            with self.assertRaises(TooMany):
                soon(self, weights, box)

    def test_a_big_box_with_few_coverings(self):
        pieces = tuple([((thing,), 1) for thing in range(16)]) + tuple([((thing, thing + 1), 3) for thing in range(15)])
        box = (16, (), pieces[:23])
        self.assertLessEqual(many(box), 1000)
        told = soon(self, weights, box)
        # Each pair in the place of two single ones weighs one more.
        self.assertEqual(told, [(16, 1), (17, 7), (18, 15), (19, 10), (20, 1)])

    def test_the_told_list_is_the_askers_own(self):
        for box in (HAND_MADE[0], HAND_MADE[6], NONE, THOUSAND):
            right = list(weights(box))
            told = weights(box)
            told.append((0, 0))
            told[0] = None
            self.assertEqual(weights(box), right)
            self.assertEqual(weights(copy.deepcopy(box)), right)


class ByLots(unittest.TestCase):
    def test_plain(self):
        self.assertEqual(many_by_lots((0, (), ())), 1)
        self.assertEqual(many_by_lots((1, (), ())), 0)
        self.assertEqual(many_by_lots((1, (0,), ())), 1)
        self.assertEqual(many_by_lots((1, (0,), (((0,), 7),) * 3)), 4)
        self.assertEqual(many_by_lots(NONE), 0)

    def test_against_all_coverings(self):
        for box in small_boxes():
            with self.subTest(box=box):
                self.assertEqual(many_by_lots(box), len(all_coverings(box)))
                self.assertEqual(many_by_lots(box), many(box))

    def test_ways_to_hold_just_as_many_things(self):
        for total, ways in enumerate((1, 2, 2, 3, 3, 2, 2, 1, 0)):
            self.assertEqual(ways_to_hold([1, 1, 2, 3], total), ways)

    def test_up_to_ten_things(self):
        chance = random.Random(12)
        for things in range(7, 11):
            for longest in (1, 2, 3, 10):
                box = made_box(chance, things, 32, longest)
                self.assertEqual(soon(self, many_by_lots, box), many(box))
        for mays in ((), (9,), tuple(range(10))):
            box = (10, mays, tuple([((number % 10,), 1) for number in range(32)]))
            self.assertEqual(many_by_lots(box), many(box))
            self.assertGreater(many_by_lots(box), 50000)

    def test_from_eleven_things_on(self):
        for things in (11, 12, 16, 17):
            for mays in ((), tuple(range(things))):
                assert_refused(self, TooMany, many_by_lots, (things, mays, ()))
                assert_refused(self, TooMany, many_by_lots, (things, mays, (((0, 10), 1),)))
        for box in big_boxes():
            assert_refused(self, TooMany, many_by_lots, box)

    def test_the_same_answer_again_and_nothing_changed(self):
        for box in small_boxes()[:30]:
            kept = copy.deepcopy(box)
            for ask in (many_by_lots, sizes, weights):
                self.assertEqual(ask(box), ask(box))
            self.assertEqual(box, kept)


if __name__ == "__main__":
    unittest.main()
