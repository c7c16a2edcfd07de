"""Boxes turned smaller, and their coverings led back and there: points 27 and 28, and 4 of them."""

import copy
import random
import unittest

from eachonce.boxes import is_box
from eachonce.coverings import covering_at, is_covering, many
from eachonce.errors import NoCovering
from eachonce.smaller import led_back, led_there, turned_smaller
from samples import (
    all_coverings, assert_refused, big_boxes, few_mays, made_box, no_lots, odd_things, small_boxes, soon,
)

PAIRS = (3, (), (((0, 1), 1), ((1, 2), 1), ((0, 2), 1)))
NOTHING = (0, (), ())


def is_idle_by_words(box, number):
    held = set(box[2][number][0])
    for must in range(box[0]):
        if must not in box[1] and must not in held:
            for thing in held:
                if all(thing in things for things, weight in box[2] if must in things):
                    return True
    return False


def turned_by_words(box):
    """By a list of the things that stay and one of the pieces, all by the numbers that they had at first."""
    things, pieces, taken = list(range(box[0])), list(range(len(box[2]))), []
    while True:
        inner = renumbered(box, things, pieces)
        idle = [number for number in range(len(pieces)) if is_idle_by_words(inner, number)]
        if idle:
            pieces = pieces[:idle[0]] + pieces[idle[0] + 1:]
            continue
        lone = []
        for thing in things:
            holders = [piece for piece in pieces if thing in box[2][piece][0]]
            if thing not in box[1] and len(holders) == 1:
                lone.append(holders[0])
        if not lone:
            return (inner, tuple(things), tuple(pieces), tuple(sorted(taken)))
        taken.append(lone[0])
        gone = set(box[2][lone[0]][0])
        things = [thing for thing in things if thing not in gone]
        pieces = [piece for piece in pieces if not gone & set(box[2][piece][0])]


def renumbered(box, things, pieces):
    inner = [(tuple([things.index(thing) for thing in box[2][piece][0]]), box[2][piece][1]) for piece in pieces]
    return (len(things), tuple([things.index(may) for may in box[1] if may in things]), tuple(inner))


def boxes():
    chance = random.Random(27)
    made = [made_box(chance, chance.randint(4, 7), chance.randint(5, 9), 4) for _ in range(80)]
    drawn = small_boxes() + made
    return drawn + [few_mays(box) for box in drawn if len(box[1]) > 1]


class TurnedSmaller(unittest.TestCase):
    def test_boxes_that_stay_as_they_are(self):
        four = (4, (), (((0, 1), 1), ((2, 3), 2), ((0, 2), 3), ((1, 3), 4)))
        for box in (PAIRS, NOTHING, (1, (0,), ()), (2, (0, 1), (((0, 1), 3), ((1,), 1))), (1, (), ()), four,
                    (1, (), (((0,), 1), ((0,), 1)))):
            self.assertEqual(turned_smaller(box), (box, tuple(range(box[0])), tuple(range(len(box[2]))), ()))

    def test_a_piece_that_stands_alone_is_taken(self):
        self.assertEqual(turned_smaller((1, (), (((0,), 5),))), (NOTHING, (), (), (0,)))
        # Thing 1 is left to two pieces alike.
        box = (2, (), (((1,), 1), ((0,), 5), ((1,), 2)))
        self.assertEqual(turned_smaller(box), ((1, (), (((0,), 1), ((0,), 2))), (1,), (0, 2), (1,)))
        # A may that just one piece holds takes nothing.
        box = (2, (0,), (((0,), 1), ((1,), 2)))
        self.assertEqual(turned_smaller(box), ((1, (0,), (((0,), 1),)), (0,), (0,), (1,)))

    def test_idle_pieces(self):
        # Each piece that holds thing 0 holds thing 1, so piece 2 is in no covering; then 0 and 1 are as they are.
        box = (2, (), (((0, 1), 1), ((0, 1), 2), ((1,), 3)))
        self.assertEqual(turned_smaller(box), ((2, (), (((0, 1), 1), ((0, 1), 2))), (0, 1), (0, 1), ()))
        # The same where thing 1 is a may; where thing 0 is a may, nothing is idle.
        box = (2, (1,), (((0, 1), 1), ((0, 1), 2), ((1,), 3)))
        self.assertEqual(turned_smaller(box), ((2, (1,), (((0, 1), 1), ((0, 1), 2))), (0, 1), (0, 1), ()))
        box = (2, (0,), (((0, 1), 1), ((0, 1), 2), ((1,), 3)))
        self.assertEqual(turned_smaller(box), (box, (0, 1), (0, 1, 2), ()))

    def test_idle_pieces_go_first(self):
        # Thing 0 is held by piece 0 alone; without the idle pieces 1 and 2, thing 2 by piece 3 alone.
        box = (3, (), (((0, 1), 1), ((1, 2), 2), ((1,), 3), ((2,), 4)))
        self.assertEqual(turned_smaller(box), (NOTHING, (), (), (0, 3)))
        box = (4, (3,), (((0, 1), 1), ((1, 2), 2), ((2, 3), 3), ((2,), 4), ((3,), 5)))
        self.assertEqual(turned_smaller(box), (
            (2, (1,), (((0, 1), 3), ((0,), 4), ((1,), 5))), (2, 3), (2, 3, 4), (0,)))
        # Piece 0 would be taken for thing 0, but it is idle, since no piece holds thing 1.
        self.assertEqual(turned_smaller((2, (), (((0,), 1),))), ((2, (), ()), (0, 1), (), ()))

    def test_a_must_that_no_piece_holds(self):
        # Then each piece is idle, and no piece is taken.
        box = (3, (), (((0,), 1), ((1,), 2), ((0, 1), 3)))
        self.assertEqual(turned_smaller(box), ((3, (), ()), (0, 1, 2), (), ()))
        box = (3, (0,), (((1,), 1),))
        self.assertEqual(turned_smaller(box), ((3, (0,), ()), (0, 1, 2), (), ()))
        # Thing 0 is held by piece 0, thing 2 by piece 1, both hold thing 1: each is idle by the other's must. When
        # piece 0 is left out, no piece holds thing 0.
        box = (3, (), (((0, 1), 1), ((1, 2), 1)))
        self.assertEqual(turned_smaller(box), ((3, (), ()), (0, 1, 2), (), ()))

    def test_which_piece_is_idle_hangs_on_those_left_out(self):
        for box in ((4, (), (((0, 1), 1), ((0, 2), 1), ((1, 2, 3), 1), ((0, 3), 1), ((3,), 1), ((1, 2), 1))),
                    (5, (2,), (((0, 1, 2), 1), ((0, 1), 1), ((1, 3), 1), ((3, 4), 1), ((4,), 1), ((2, 3, 4), 1)))):
            self.assertEqual(turned_smaller(box), turned_by_words(box))

    def test_step_by_step_on_small_boxes(self):
        kinds = {}
        for box in boxes():
            kept = copy.deepcopy(box)
            told = turned_smaller(box)
            self.assertEqual(told, turned_by_words(box), box)
            self.assertEqual([told.__class__] + [part.__class__ for part in told], [tuple] * 5)
            self.assertIs(is_box(told[0]), True)
            self.assertEqual(turned_smaller(box), told)
            self.assertEqual(box, kept)
            kind = (len(told[3]) > 0, len(told[2]) + len(told[3]) < len(box[2]), len(told[2]) > 0)
            kinds[kind] = kinds.get(kind, 0) + 1
        self.assertGreater(min(kinds.get(kind, 0) for kind in (
            (False, False, True), (True, True, True), (True, True, False), (False, True, True))), 10)

    def test_turned_smaller_again_it_stays(self):
        for box in boxes():
            inner = turned_smaller(box)[0]
            self.assertEqual(turned_smaller(inner), (inner, tuple(range(inner[0])), tuple(range(len(inner[2]))), ()))

    def test_as_many_coverings(self):
        for box in boxes():
            self.assertEqual(many(turned_smaller(box)[0]), many(box))

    def test_big_boxes(self):
        chance = random.Random(28)
        made = [made_box(chance, 16, pieces, longest) for pieces in (10, 20, 32) for longest in (2, 3, 5, 8)]
        for box in big_boxes() + made + [few_mays(box) for box in made] + [(16, (), box[2]) for box in made]:
            told = soon(self, turned_smaller, box)
            self.assertEqual(told, turned_by_words(box))
            self.assertEqual(many(told[0]), many(box))

    def test_a_long_way(self):
        steps = tuple([((thing, thing + 1), thing) for thing in range(0, 16, 2)])
        bars = tuple([((thing, thing + 1), thing) for thing in range(1, 15, 2)])
        told = turned_smaller((16, (), steps + bars))
        self.assertEqual(told, (NOTHING, (), (), tuple(range(8))))
        told = turned_smaller((16, (), bars + steps))
        self.assertEqual(told, (NOTHING, (), (), tuple(range(7, 15))))


class LedBackAndThere(unittest.TestCase):
    def test_plain(self):
        box = (2, (), (((1,), 1), ((0,), 5), ((1,), 2)))
        self.assertEqual(led_back(box, (0,)), (0, 1))
        self.assertEqual(led_back(box, (1,)), (1, 2))
        self.assertEqual(led_there(box, (0, 1)), (0,))
        self.assertEqual(led_there(box, (1, 2)), (1,))
        self.assertEqual(led_back((1, (), (((0,), 5),)), ()), (0,))
        self.assertEqual(led_there((1, (), (((0,), 5),)), (0,)), ())
        self.assertEqual(led_back(NOTHING, ()), ())
        self.assertEqual(led_there(NOTHING, ()), ())

    def test_there_and_back_again(self):
        led = 0
        for box in boxes():
            kept = copy.deepcopy(box)
            inner, _, pieces, taken = turned_by_words(box)
            firsts, ends = all_coverings(box), all_coverings(inner)
            self.assertEqual(len(firsts), len(ends))
            back = [led_back(box, covering) for covering in ends]
            # The taken pieces and, for each piece of its own, the one that this was at first.
            self.assertEqual(back, [tuple(sorted(taken + tuple([pieces[k] for k in some]))) for some in ends])
            self.assertEqual(sorted(back), sorted(firsts))
            there = [led_there(box, covering) for covering in firsts]
            self.assertEqual(sorted(there), sorted(ends))
            self.assertEqual([led_back(box, covering) for covering in there], firsts)
            self.assertEqual([led_there(box, covering) for covering in back], ends)
            self.assertEqual(box, kept)
            led += len(firsts) if inner != box else 0
        self.assertGreater(led, 200)

    def test_big_boxes(self):
        chance = random.Random(29)
        led = 0
        made = [made_box(chance, 16, 32, longest) for longest in (2, 3, 4) for _ in range(10)]
        for box in big_boxes() + [few_mays(box) for box in made] + made:
            count = many(box)
            for number in sorted({0, count // 2, count - 1}) if count else ():
                covering = covering_at(box, number)
                there = soon(self, led_there, box, covering)
                self.assertIs(is_covering(turned_smaller(box)[0], there), True)
                self.assertEqual(soon(self, led_back, box, there), covering)
                led += 1
        self.assertGreater(led, 50)

    def test_what_is_no_covering_of_the_one_box_or_the_other(self):
        other_box_alone = 0
        for box in boxes():
            inner = turned_by_words(box)[0]
            firsts, ends = all_coverings(box), all_coverings(inner)
            for some in firsts + [(), (0,), (0, 1), (1,)]:
                if some not in ends:
                    assert_refused(self, NoCovering, led_back, box, some)
                    other_box_alone += some in firsts
            for some in ends + [(), (0,), (0, 1), (1,)]:
                if some not in firsts:
                    assert_refused(self, NoCovering, led_there, box, some)
                    other_box_alone += some in ends
            for covering in firsts:
                for wrong in (list(covering), covering[::-1], covering + (len(box[2]),), covering[1:],
                              (-1,) + covering):
                    if wrong not in firsts:
                        assert_refused(self, NoCovering, led_there, box, wrong)
            for covering in ends:
                for wrong in (list(covering), covering[::-1], covering + (len(inner[2]),), covering[1:],
                              (-1,) + covering):
                    if wrong not in ends:
                        assert_refused(self, NoCovering, led_back, box, wrong)
        self.assertGreater(other_box_alone, 200)

    def test_where_there_is_none(self):
        for some in ((), (0,), (0, 1), (0, 1, 2)):
            assert_refused(self, NoCovering, led_back, PAIRS, some)
            assert_refused(self, NoCovering, led_there, PAIRS, some)

    def test_of_anything(self):
        for box in [PAIRS, (1, (), (((0,), 5),)), (2, (), (((1,), 1), ((0,), 5), ((1,), 2)))] + boxes()[30:34]:
            ends = all_coverings(turned_by_words(box)[0])
            for thing in odd_things() + no_lots(len(box[2])) + [True, False, 0, 1]:
                kept = repr(thing)
                with self.subTest(box=box, thing=kept[:200]):
                    assert_refused(self, NoCovering, led_there, box, thing)
                    if not (thing.__class__ is tuple and thing in ends and True not in thing and False not in thing):
                        assert_refused(self, NoCovering, led_back, box, thing)
                    self.assertEqual(repr(thing), kept)


if __name__ == "__main__":
    unittest.main()
