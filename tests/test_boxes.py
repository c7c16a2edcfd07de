"""Boxes and their musts: point 5, with points 2 and 3."""

import copy
import itertools
import unittest

from eachonce.boxes import is_box, musts_of
from samples import LONGEST, odd_things

WEIGHT_END = 10 ** 12
ALL_16 = tuple(range(16))

# A box in which each kind of place is filled; the tests below put odd things there.
PLAIN = (4, (1, 3), (((0, 2), 5), ((1,), -7), ((0, 1, 2, 3), 0)))
# The ways, by indexes, to each kind of place in PLAIN.
PLACES = ((), (0,), (1,), (1, 0), (1, 1), (2,), (2, 0), (2, 0, 0), (2, 0, 0, 0), (2, 0, 0, 1), (2, 0, 1))
WHOLE_PLACES = ((0,), (1, 0), (1, 1), (2, 0, 0, 0), (2, 0, 0, 1), (2, 0, 1))
TUPLE_PLACES = ((), (1,), (2,), (2, 0), (2, 0, 0))


def part_at(thing, way):
    for index in way:
        thing = thing[index]
    return thing


def with_part(thing, way, part):
    if not way:
        return part
    inner = with_part(thing[way[0]], way[1:], part)
    return thing[:way[0]] + (inner,) + thing[way[0] + 1:]


class BoxCase(unittest.TestCase):
    def assert_box(self, thing):
        with self.subTest(thing=repr(thing)[:200]):
            self.assertIs(is_box(thing), True)

    def assert_no_box(self, thing):
        with self.subTest(thing=repr(thing)[:200]):
            self.assertIs(is_box(thing), False)


class Boxes(BoxCase):
    def test_plain(self):
        self.assert_box(PLAIN)
        self.assert_box((1, (), (((0,), 1),)))

    def test_things_from_none_to_16(self):
        self.assert_box((0, (), ()))
        for many in range(17):
            self.assert_box((many, (), ()))

    def test_mays_none_some_all(self):
        for many in range(17):
            for mays in ((), tuple(range(0, many, 2)), tuple(range(many))):
                self.assert_box((many, mays, ()))

    def test_pieces_from_none_to_32(self):
        for count in range(33):
            self.assert_box((2, (1,), (((0, 1), 4),) * count))
        unlike = tuple(((number % 16,), number) for number in range(32))
        self.assert_box((16, (), unlike))

    def test_a_piece_of_one_thing_or_of_all(self):
        for many in range(1, 17):
            self.assert_box((many, (), ((tuple(range(many)), 0),)))
            for thing in range(many):
                self.assert_box((many, (), (((thing,), 0),)))

    def test_pieces_that_are_alike(self):
        self.assert_box((3, (), (((0, 2), 1), ((1,), 1), ((0, 2), 1))))

    def test_weights_up_to_both_ends(self):
        for weight in (0, 1, -1, WEIGHT_END - 1, WEIGHT_END, 1 - WEIGHT_END, -WEIGHT_END):
            self.assert_box((1, (), (((0,), weight),)))


class NoBoxes(BoxCase):
    def test_things_below_none_or_above_16(self):
        for many in (-1, 17, 18, -LONGEST, LONGEST):
            self.assert_no_box((many, (), ()))
        self.assert_no_box((17, ALL_16, ((ALL_16, 0),)))

    def test_33_pieces_or_more(self):
        for count in (33, 34, 64):
            self.assert_no_box((2, (1,), (((0, 1), 4),) * count))

    def test_a_piece_without_things(self):
        for many in (0, 1, 16):
            self.assert_no_box((many, (), (((), 0),)))

    def test_a_thing_that_is_not_there(self):
        for many in range(17):
            for lot in ((-1,), (many,), (many + 1,), (-LONGEST,), (LONGEST,), tuple(range(-1, many)),
                        tuple(range(many + 1))):
                self.assert_no_box((many, lot, ()))
                self.assert_no_box((many, (), ((lot, 0),)))

    def test_things_that_do_not_rise(self):
        for lot in ((1, 0), (0, 2, 1), (2, 0, 1), (0, 0), (0, 1, 1), (0, 0, 1), (0, 1, 0)):
            self.assert_no_box((3, lot, ()))
            self.assert_no_box((3, (), ((lot, 0),)))

    def test_weights_beyond_both_ends(self):
        for weight in (WEIGHT_END + 1, -WEIGHT_END - 1, LONGEST, -LONGEST):
            self.assert_no_box((1, (), (((0,), weight),)))

    def test_a_truth_in_the_place_of_each_whole_number(self):
        # With 0 or 1 in place of the truth each of these is a box.
        for box, way in (
            ((0, (), ()), (0,)), ((1, (0,), (((0,), 5),)), (0,)),
            ((2, (0,), ()), (1, 0)), ((2, (1,), ()), (1, 0)), ((2, (0, 1), ()), (1, 1)),
            ((2, (), (((0,), 5),)), (2, 0, 0, 0)), ((2, (), (((0, 1), 5),)), (2, 0, 0, 1)),
            ((2, (), (((0,), 0),)), (2, 0, 1)), ((2, (), (((0,), 1),)), (2, 0, 1)),
        ):
            self.assert_box(box)
            self.assert_no_box(with_part(box, way, bool(part_at(box, way))))
        for way in WHOLE_PLACES:
            for truth in (True, False):
                self.assert_no_box(with_part(PLAIN, way, truth))

    def test_a_list_in_the_place_of_each_tuple(self):
        for box in (PLAIN, (1, (), (((0,), 0),))):
            for way in TUPLE_PLACES:
                self.assert_no_box(with_part(box, way, list(part_at(box, way))))
        self.assert_no_box((0, [], ()))
        self.assert_no_box((0, (), []))

    def test_a_part_too_few_or_too_many(self):
        for thing in ((), (4,), (4, ()), (4, (), (), ()), (4, (), (), 0), ((), ())):
            self.assert_no_box(thing)
        for piece in ((), ((0,),), ((0,), 0, 0), ((0,), 0, ()), (0,), (0, 0)):
            self.assert_no_box((4, (), (piece,)))

    def test_one_wrong_piece_among_right_ones(self):
        right = ((0, 1), 3)
        for place in range(4):
            for wrong in (((), 3), ((2,), 3), ((1, 0), 3), ((0,), True), ((0,), WEIGHT_END + 1), None):
                self.assert_no_box((2, (), (right,) * place + (wrong,) + (right,) * (3 - place)))

    def test_parts_in_another_order(self):
        for order in itertools.permutations(range(3)):
            if order != (0, 1, 2):
                self.assert_no_box(tuple(PLAIN[place] for place in order))
        self.assert_no_box((1, (), ((0, (0,)),)))


class Anything(BoxCase):
    def test_odd_things_by_themselves(self):
        for thing in odd_things() + [True, False, 0, 1, -1, 16]:
            self.assert_no_box(thing)

    def test_odd_things_in_each_place(self):
        for way in PLACES:
            for odd in odd_things():
                self.assert_no_box(with_part(PLAIN, way, odd))

    def test_the_same_answer_again_and_nothing_changed(self):
        for way in PLACES:
            for odd in odd_things() + [True, False, part_at(PLAIN, way)]:
                thing = with_part(PLAIN, way, odd)
                kept = copy.deepcopy(thing)
                answers = [is_box(thing), is_box(thing), is_box(kept)]
                with self.subTest(thing=repr(thing)[:200]):
                    self.assertEqual(len(set(answers)), 1)
                    # Beside ==, since True == 1 would hide a part that was put in another's place.
                    self.assertEqual(repr(thing), repr(kept))
                    self.assertEqual(thing, kept)

    def test_answers_between_other_questions(self):
        self.assert_box(PLAIN)
        self.assert_no_box((4, (3, 1), ()))
        self.assert_box(PLAIN)
        self.assert_no_box((4, (3, 1), ()))


class Musts(unittest.TestCase):
    def test_just_the_things_that_are_no_mays(self):
        for many in range(8):
            for count in range(many + 1):
                for mays in itertools.combinations(range(many), count):
                    with self.subTest(many=many, mays=mays):
                        told = musts_of((many, mays, ()))
                        self.assertIs(told.__class__, list)
                        self.assertEqual(told, sorted(set(range(many)) - set(mays)))

    def test_boxes_at_the_edges(self):
        for box, musts in (
            ((0, (), ()), []),
            ((16, (), ()), list(ALL_16)),
            ((16, ALL_16, ()), []),
            ((16, (0, 15), ()), list(range(1, 15))),
            (PLAIN, [0, 2]),
        ):
            with self.subTest(box=box):
                self.assertEqual(musts_of(box), musts)

    def test_pieces_do_not_matter(self):
        for pieces in ((), (((0, 1, 2, 3), 9),), (((1,), 0),) * 32):
            with self.subTest(pieces=pieces):
                self.assertEqual(musts_of((4, (1, 3), pieces)), [0, 2])

    def test_a_told_list_is_the_askers_own(self):
        for box, musts in ((PLAIN, [0, 2]), ((0, (), ()), []), ((3, (), ()), [0, 1, 2])):
            with self.subTest(box=box):
                kept = copy.deepcopy(box)
                one, other = musts_of(box), musts_of(box)
                one.append(99)
                one[0] = -5
                self.assertEqual(other, musts)
                self.assertEqual(musts_of(box), musts)
                self.assertEqual(musts_of(kept), musts)
                self.assertEqual(box, kept)

    def test_a_told_list_stays_as_it_was_told(self):
        told = musts_of(PLAIN)
        musts_of((16, (), ()))
        is_box(PLAIN)
        self.assertEqual(told, [0, 2])


if __name__ == "__main__":
    unittest.main()
