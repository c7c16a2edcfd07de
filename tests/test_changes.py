"""Boxes side by side, named anew, with mays made musts: points 24 to 26, and 4 of them."""

import copy
import itertools
import random
import unittest

from eachonce.boxes import is_box
from eachonce.changes import all_musts, named_anew, side_by_side
from eachonce.coverings import many
from eachonce.counts import sizes, weights
from eachonce.errors import NoOrder, TooMany
from samples import (
    BLOCKS, LONGEST, all_coverings, assert_refused, big_boxes, drawn_order, in_a_row, made_box, odd_things, small_boxes,
    weight_of,
)

PLAIN = (4, (1, 3), (((0, 1), 5), ((2,), -1), ((1, 3), 7)))
OTHER = (3, (0,), (((0, 2), 2), ((1,), -4)))
NOTHING = (0, (), ())


def box_of(things, pieces, may=True):
    """So many mays (or musts), and so many pieces of the first thing."""
    return (things, tuple(range(things)) if may else (), (((0,), 1),) * pieces)


def named_by_words(box, things, pieces):
    return (
        box[0], tuple([new for new, old in enumerate(things) if old in box[1]]),
        tuple([(tuple([new for new, old in enumerate(things) if old in box[2][piece][0]]), box[2][piece][1])
               for piece in pieces]),
    )


def turned_back(order):
    return tuple([order.index(number) for number in range(len(order))])


def wrong_orders(count):
    """What is no order of so many numbers, one off for each reason."""
    numbers = tuple(range(count))
    wrong = [numbers + (count,), numbers + (0,), numbers + (-1,), list(numbers), numbers + (None,), (numbers,), None, 0,
             1, True, False, "0", "", {}, dict(enumerate(numbers)), (None,) * (count + 1), LONGEST, [numbers]]
    if count > 0:
        wrong += [(), numbers[1:], numbers[:-1], numbers[:-1] + (count,), numbers[:-1] + (-1,), (-1,) + numbers[1:],
                  numbers[:-1] + (True,), (False,) + numbers[1:], numbers[:-1] + (None,),
                  (None,) + numbers[1:], numbers[:-1] + (str(count - 1),), numbers[:-1] + ((count - 1,),),
                  numbers[:-1] + ([count - 1],), (LONGEST,) + numbers[1:], numbers[:-1] + (-LONGEST,),
                  tuple([number + 1 for number in numbers]), tuple([number - 1 for number in numbers]),
                  tuple([-number - 1 for number in numbers])]
    if count > 1:
        wrong += [(0,) * count, (count - 1,) + numbers[1:], numbers[:-1] + (0,), (1,) + numbers[1:],
                  (False, True) + numbers[2:], (0, True) + numbers[2:], "".join(map(str, numbers))]
    return wrong


class SideBySide(unittest.TestCase):
    def test_plain(self):
        self.assertEqual(side_by_side(PLAIN, OTHER), (7, (1, 3, 4), (
            ((0, 1), 5), ((2,), -1), ((1, 3), 7), ((4, 6), 2), ((5,), -4))))
        self.assertEqual(side_by_side(OTHER, PLAIN), (7, (0, 4, 6), (
            ((0, 2), 2), ((1,), -4), ((3, 4), 5), ((5,), -1), ((4, 6), 7))))

    def test_nothing_on_either_side(self):
        for box in small_boxes() + big_boxes():
            self.assertEqual(side_by_side(box, NOTHING), box)
            self.assertEqual(side_by_side(NOTHING, box), box)

    def test_small_boxes(self):
        chance = random.Random(24)
        for _ in range(200):
            one, other = chance.choice(small_boxes()), chance.choice(small_boxes())
            kept = copy.deepcopy((one, other))
            told = side_by_side(one, other)
            self.assertEqual(told, in_a_row([one, other]))
            self.assertIs(is_box(told), True)
            self.assertEqual((one, other), kept)

    def test_its_coverings_are_those_of_the_one_with_those_of_the_other(self):
        chance = random.Random(25)
        boxes = [box for box in small_boxes() if len(box[2]) <= 6]
        for _ in range(80):
            one, other = chance.choice(boxes), chance.choice(boxes)
            told = side_by_side(one, other)
            pairs = itertools.product(all_coverings(one), all_coverings(other))
            together = [first + tuple([len(one[2]) + piece for piece in second]) for first, second in pairs]
            self.assertEqual(all_coverings(told), together)
            self.assertEqual(many(told), many(one) * many(other))

    def test_told_at_16_things_and_refused_at_one_more(self):
        for first in range(17):
            told = side_by_side(box_of(first, 0), box_of(16 - first, 0))
            self.assertEqual(told, (16, tuple(range(16)), ()))
            assert_refused(self, TooMany, side_by_side, box_of(first, 0), box_of(17 - first, 0))
        assert_refused(self, TooMany, side_by_side, box_of(16, 0), box_of(16, 0))
        assert_refused(self, TooMany, side_by_side, (16, (), ()), (1, (), ()))

    def test_told_at_32_pieces_and_refused_at_one_more(self):
        for first in range(33):
            one = box_of(1, first)
            told = side_by_side(one, box_of(2, 32 - first))
            self.assertEqual(told, (3, (0, 1, 2), (((0,), 1),) * first + (((1,), 1),) * (32 - first)))
            assert_refused(self, TooMany, side_by_side, one, box_of(2, 33 - first))
        assert_refused(self, TooMany, side_by_side, box_of(1, 32), box_of(1, 1))

    def test_both_bounds_at_once(self):
        whole = side_by_side(side_by_side(BLOCKS[0], BLOCKS[1]), side_by_side(BLOCKS[2], BLOCKS[3]))
        self.assertEqual(whole, in_a_row(BLOCKS))
        assert_refused(self, TooMany, side_by_side, whole, PLAIN)
        assert_refused(self, TooMany, side_by_side, PLAIN, whole)


class NamedAnew(unittest.TestCase):
    def test_plain(self):
        told = named_anew(PLAIN, (3, 0, 1, 2), (1, 2, 0))
        self.assertEqual(told, (4, (0, 2), (((3,), -1), ((0, 2), 7), ((1, 2), 5))))
        told = named_anew(PLAIN, (2, 3, 1, 0), (2, 0, 1))
        self.assertEqual(told, (4, (1, 2), (((1, 2), 7), ((2, 3), 5), ((0,), -1))))
        self.assertEqual(named_anew(NOTHING, (), ()), NOTHING)

    def test_as_they_are(self):
        for box in small_boxes() + big_boxes():
            self.assertEqual(named_anew(box, tuple(range(box[0])), tuple(range(len(box[2])))), box)

    def test_drawn_orders_and_turned_about(self):
        chance = random.Random(26)
        for box in small_boxes() + big_boxes():
            kept = copy.deepcopy(box)
            drawn = [(drawn_order(chance, box[0]), drawn_order(chance, len(box[2]))) for _ in range(4)]
            drawn.append((tuple(range(box[0]))[::-1], tuple(range(len(box[2])))[::-1]))
            for things, pieces in drawn:
                told = named_anew(box, things, pieces)
                self.assertEqual(told, named_by_words(box, things, pieces))
                self.assertIs(is_box(told), True)
                # By the orders turned back it is the box again.
                self.assertEqual(named_anew(told, turned_back(things), turned_back(pieces)), box)
            self.assertEqual(box, kept)

    def test_its_coverings_come_of_those_of_the_box(self):
        chance = random.Random(27)
        for box in small_boxes():
            things, pieces = drawn_order(chance, box[0]), drawn_order(chance, len(box[2]))
            told = named_anew(box, things, pieces)
            come = [tuple(sorted([pieces.index(piece) for piece in covering])) for covering in all_coverings(box)]
            self.assertEqual(sorted(all_coverings(told)), sorted(come))
            self.assertEqual([many(told), sizes(told), weights(told)], [many(box), sizes(box), weights(box)])

    def test_no_order_in_either_place(self):
        for box in [PLAIN, OTHER, NOTHING] + small_boxes()[:30] + big_boxes()[:1]:
            things, pieces = tuple(range(box[0])), tuple(range(len(box[2])))
            for wrong in wrong_orders(box[0]):
                with self.subTest(box=box, things=wrong):
                    assert_refused(self, NoOrder, named_anew, box, wrong, pieces)
            for wrong in wrong_orders(len(box[2])):
                with self.subTest(box=box, pieces=wrong):
                    assert_refused(self, NoOrder, named_anew, box, things, wrong)
            assert_refused(self, NoOrder, named_anew, box, None, None)

    def test_the_orders_exchanged(self):
        assert_refused(self, NoOrder, named_anew, PLAIN, (0, 1, 2), (0, 1, 2, 3))

    def test_of_anything(self):
        for odd in odd_things() + [True, False, 3, -1]:
            for thing in (odd, (odd,), (odd,) * 4, (odd,) * 3, (0, 1, odd), (0, 1, odd, 3), (odd, 1, 2), [odd]):
                kept = repr(thing)
                with self.subTest(thing=kept[:200]):
                    assert_refused(self, NoOrder, named_anew, PLAIN, thing, (0, 1, 2))
                    assert_refused(self, NoOrder, named_anew, PLAIN, (0, 1, 2, 3), thing)
                    assert_refused(self, NoOrder, named_anew, PLAIN, thing, thing)
                    if thing != ():
                        assert_refused(self, NoOrder, named_anew, NOTHING, thing, ())
                        assert_refused(self, NoOrder, named_anew, NOTHING, (), thing)
                    self.assertEqual(repr(thing), kept)


class AllMusts(unittest.TestCase):
    def test_plain(self):
        self.assertEqual(all_musts(PLAIN), (4, (), (((0, 1), 5), ((2,), -1), ((1, 3), 7), ((1,), 0), ((3,), 0))))
        self.assertEqual(all_musts(OTHER), (3, (), (((0, 2), 2), ((1,), -4), ((0,), 0))))
        self.assertEqual(all_musts(NOTHING), NOTHING)

    def test_without_mays_it_is_the_box(self):
        for box in small_boxes():
            plain = (box[0], (), box[2])
            self.assertEqual(all_musts(plain), plain)

    def test_as_many_coverings_of_the_same_weights(self):
        for box in small_boxes():
            kept = copy.deepcopy(box)
            told = all_musts(box)
            self.assertEqual(told, (box[0], (), box[2] + tuple([((may,), 0) for may in box[1]])))
            self.assertIs(is_box(told), True)
            self.assertEqual([many(told), weights(told)], [many(box), weights(box)])
            come = [tuple([piece for piece in covering if piece < len(box[2])]) for covering in all_coverings(told)]
            self.assertEqual(sorted(come), sorted(all_coverings(box)))
            for covering, first in zip(all_coverings(told), come):
                self.assertEqual(weight_of(told, covering), weight_of(box, first))
            self.assertEqual(box, kept)

    def test_told_at_32_pieces_and_refused_at_33(self):
        for mays in (0, 1, 7, 16):
            box = (16, tuple(range(mays)), (((0,), 1),) * (32 - mays))
            self.assertEqual(len(all_musts(box)[2]), 32)
            assert_refused(self, TooMany, all_musts, (16, box[1], box[2] + (((0,), 1),)))
        for box in big_boxes():
            assert_refused(self, TooMany, all_musts, box)
        made = made_box(random.Random(28), 16, 32, 3)
        self.assertEqual(all_musts((16, (), made[2])), (16, (), made[2]))
        assert_refused(self, TooMany, all_musts, (16, (15,), made[2]))


if __name__ == "__main__":
    unittest.main()
