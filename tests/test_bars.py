"""Boxes narrowed to a lot, bars, least bars and least mends: points 19 and 20, and 4 of them."""

import copy
import itertools
import random
import unittest

from eachonce.bars import is_bar, least_bars, least_mends, narrowed
from eachonce.boxes import is_box
from eachonce.coverings import many
from eachonce.errors import NoThing, TooMany
from eachonce.papers import paper_of, shown
from samples import (
    LONGEST, all_coverings, all_lots, assert_refused, big_boxes, few_mays, least_of, made_box, no_lots, odd_things,
    small_boxes, soon,
)

# Things 1 and 3 are mays.
PLAIN = (5, (1, 3), (((0, 1), 5), ((2,), -1), ((1, 3, 4), 7), ((3,), 0), ((0, 2, 4), -3), ((0, 1), 5)))
PAIRS = (3, (), (((0, 1), 1), ((1, 2), 1), ((0, 2), 1)))


def narrowed_by_words(box, lot):
    pieces = []
    for things, weight in box[2]:
        rest = [lot.index(thing) for thing in things if thing in lot]
        if rest:
            pieces.append((tuple(rest), weight))
    return (len(lot), tuple([lot.index(may) for may in box[1] if may in lot]), tuple(pieces))


def has_covering(box, lot):
    """Some pieces hold each must of the lot once, each may of it at most once; found thing by thing."""
    def reached(held):
        left = [thing for thing in lot if thing not in held]
        if not left:
            return True
        thing = left[0]
        if thing in box[1] and reached(held | {thing}):
            return True
        parts = {frozenset(things) & frozenset(lot) for things, weight in box[2] if thing in things}
        return any(not part & held and reached(held | part) for part in parts)
    return reached(frozenset())


def bars_by_words(box):
    return [lot for lot in all_lots(box[0]) if not has_covering(box, lot)]


def mends_by_words(box):
    lots = all_lots(box[0])
    return [lot for lot in lots if has_covering(box, tuple([thing for thing in range(box[0]) if thing not in lot]))]


def boxes_with_bars():
    return small_boxes() + [few_mays(box) for box in small_boxes() if len(box[1]) > 1]


class Narrowed(unittest.TestCase):
    def test_plain(self):
        self.assertEqual(narrowed(PLAIN, (0, 3, 4)), (3, (1,), (
            ((0,), 5), ((1, 2), 7), ((1,), 0), ((0, 2), -3), ((0,), 5))))
        self.assertEqual(narrowed(PLAIN, (1, 2)), (2, (0,), (((0,), 5), ((1,), -1), ((0,), 7), ((1,), -3), ((0,), 5))))
        self.assertEqual(narrowed(PLAIN, (4,)), (1, (), (((0,), 7), ((0,), -3))))
        self.assertEqual(narrowed(PLAIN, (3,)), (1, (0,), (((0,), 7), ((0,), 0))))
        self.assertEqual(narrowed((2, (), (((0,), 1),)), (1,)), (1, (), ()))

    def test_no_things_and_all_things(self):
        for box in [PLAIN] + small_boxes() + big_boxes():
            self.assertEqual(narrowed(box, ()), (0, (), ()))
            self.assertEqual(narrowed(box, tuple(range(box[0]))), box)

    def test_all_lots_of_small_boxes(self):
        for box in small_boxes():
            for lot in all_lots(box[0]):
                told = narrowed(box, lot)
                self.assertEqual(told, narrowed_by_words(box, lot))
                self.assertIs(is_box(told), True)

    def test_narrowed_twice(self):
        chance = random.Random(19)
        for box in small_boxes() + big_boxes():
            lot = tuple([thing for thing in range(box[0]) if chance.random() < 0.7])
            inner = tuple([place for place in range(len(lot)) if chance.random() < 0.7])
            self.assertEqual(narrowed(narrowed(box, lot), inner), narrowed(box, tuple([lot[place] for place in inner])))

    def test_nothing_is_changed(self):
        for box in small_boxes():
            kept = copy.deepcopy(box)
            for lot in all_lots(box[0])[:20]:
                self.assertEqual(narrowed(box, lot), narrowed(box, lot))
            self.assertEqual(box, kept)


class NoLots(unittest.TestCase):
    def test_what_is_no_lot(self):
        for box in [PLAIN, PAIRS] + small_boxes() + big_boxes():
            for thing in no_lots(box[0]):
                with self.subTest(box=box, thing=thing):
                    assert_refused(self, NoThing, narrowed, box, thing)
                    assert_refused(self, NoThing, is_bar, box, thing)

    def test_of_anything(self):
        for box in (PLAIN, (0, (), ()), (1, (0,), ())):
            for odd in odd_things() + [True, False, 0, 1]:
                for thing in (odd, (odd,), (0, odd), (odd, 0), [odd], {0: odd}):
                    if thing != ():
                        kept = repr(thing)
                        plain = thing.__class__ is tuple and all(part.__class__ is int for part in thing)
                        if plain and all(part in range(box[0]) for part in thing) and sorted(set(thing)) == list(thing):
                            continue
                        with self.subTest(box=box, thing=kept[:200]):
                            assert_refused(self, NoThing, narrowed, box, thing)
                            assert_refused(self, NoThing, is_bar, box, thing)
                            self.assertEqual(repr(thing), kept)

    def test_just_beyond(self):
        self.assertEqual(narrowed(PAIRS, (2,))[0], 1)
        for thing in ((3,), (0, 3), (-1,), (-1, 0), (2, 2), (2, 1), (0, LONGEST)):
            assert_refused(self, NoThing, narrowed, PAIRS, thing)
            assert_refused(self, NoThing, is_bar, PAIRS, thing)


class IsBar(unittest.TestCase):
    def test_plain(self):
        self.assertIs(is_bar(PAIRS, (0, 1, 2)), True)
        for lot in ((), (0,), (1,), (2,), (0, 1), (0, 2), (1, 2)):
            self.assertIs(is_bar(PAIRS, lot), False)
        self.assertIs(is_bar((1, (), ()), (0,)), True)
        self.assertIs(is_bar((1, (0,), ()), (0,)), False)
        self.assertIs(is_bar((2, (), (((0,), 1),)), (1,)), True)

    def test_against_all_coverings_of_the_narrowed_box(self):
        bars = 0
        for box in boxes_with_bars():
            for lot in all_lots(box[0]):
                told = is_bar(box, lot)
                self.assertIs(told, len(all_coverings(narrowed_by_words(box, lot))) == 0, (box, lot))
                self.assertIs(told, not has_covering(box, lot))
                bars += told
        self.assertGreater(bars, 500)

    def test_no_things_and_all_things(self):
        for box in boxes_with_bars() + big_boxes():
            self.assertIs(is_bar(box, ()), False)
            self.assertIs(is_bar(box, tuple(range(box[0]))), many(box) == 0)

    def test_a_lot_that_has_a_bar_in_it_is_one(self):
        for box in boxes_with_bars():
            for lot in all_lots(box[0]):
                if is_bar(box, lot):
                    for thing in range(box[0]):
                        self.assertIs(is_bar(box, tuple(sorted(set(lot) | {thing}))), True)

    def test_a_paper_for_a_bar(self):
        for box in boxes_with_bars()[::4]:
            for lot in least_bars(box):
                inner = narrowed(box, lot)
                self.assertEqual(shown(inner, paper_of(inner)), ("none",))

    def test_boxes_of_sixteen_things(self):
        chance = random.Random(20)
        told = []
        for box in big_boxes() + [made_box(chance, 16, 32, longest) for longest in (1, 2, 3, 4, 6) for _ in range(6)]:
            for inner in (box, (16, (), box[2])):
                for length in (16, 14, 11, 8, 4):
                    lot = tuple(sorted(chance.sample(range(16), length)))
                    told.append(soon(self, is_bar, inner, lot))
                    self.assertIs(told[-1], not has_covering(inner, lot))
        self.assertGreater(min(told.count(True), told.count(False)), 40)


class LeastLots(unittest.TestCase):
    def test_plain(self):
        self.assertEqual(least_bars(PAIRS), [(0, 1, 2)])
        self.assertEqual(least_mends(PAIRS), [(0,), (1,), (2,)])
        self.assertEqual(least_bars((3, (), (((1,), 1),))), [(0,), (2,)])
        self.assertEqual(least_mends((3, (), (((1,), 1),))), [(0, 2)])
        # Things 0 and 2 with thing 1 alone, and a must that no piece holds.
        box = (4, (), (((0, 1), 1), ((1, 2), 1)))
        self.assertEqual(least_bars(box), [(3,), (0, 1, 2)])
        self.assertEqual(least_mends(box), [(0, 3), (1, 3), (2, 3)])

    def test_no_bars_and_one_mend_where_there_is_a_covering(self):
        for box in boxes_with_bars():
            self.assertEqual(least_bars(box) == [], many(box) > 0)
            self.assertEqual(least_mends(box) == [()], many(box) > 0)
            self.assertNotIn((), least_bars(box))
            self.assertGreater(len(least_mends(box)), 0)
        for box in ((0, (), ()), (9, tuple(range(9)), ()), (1, (), (((0,), 1),))):
            self.assertEqual(least_bars(box), [])
            self.assertEqual(least_mends(box), [()])
        for box in ((1, (), ()), (9, (), ())):
            self.assertEqual(least_bars(box), [(thing,) for thing in range(box[0])])
            self.assertEqual(least_mends(box), [tuple(range(box[0]))])

    def test_against_all_lots_of_small_boxes(self):
        lengths = {}
        for box in boxes_with_bars():
            bars, mends = least_bars(box), least_mends(box)
            self.assertEqual(bars, least_of(bars_by_words(box)), box)
            self.assertEqual(mends, least_of(mends_by_words(box)), box)
            self.assertEqual([bars.__class__, mends.__class__], [list, list])
            for lot in bars + mends:
                self.assertIs(lot.__class__, tuple)
                lengths[len(lot)] = lengths.get(len(lot), 0) + 1
        self.assertGreater(min(lengths.get(length, 0) for length in (1, 2, 3, 4)), 5)

    def test_a_lot_is_a_bar_just_where_it_has_a_least_bar_in_it(self):
        for box in boxes_with_bars():
            bars = least_bars(box)
            for lot in all_lots(box[0]):
                self.assertIs(is_bar(box, lot), any(set(bar) <= set(lot) for bar in bars))

    def test_mends_are_the_least_lots_that_share_a_thing_with_each_bar_and_bars_with_each_mend(self):
        for box in boxes_with_bars():
            bars, mends = least_bars(box), least_mends(box)
            lots = all_lots(box[0])
            self.assertEqual(mends, least_of([lot for lot in lots if all(set(lot) & set(bar) for bar in bars)]))
            self.assertEqual(bars, least_of([lot for lot in lots if all(set(lot) & set(mend) for mend in mends)]))

    def test_nine_things_are_told_and_ten_refused(self):
        chance = random.Random(21)
        kinds = []
        for longest in (1, 2, 3, 4, 9):
            for pieces in (4, 8, 12, 32):
                box = made_box(chance, 9, pieces, longest)
                for inner in (box, few_mays(box)):
                    bars, mends = soon(self, least_bars, inner), soon(self, least_mends, inner)
                    kinds.append(len(bars))
                    self.assertEqual(bars, least_of(bars_by_words(inner)))
                    self.assertEqual(mends, least_of(mends_by_words(inner)))
        self.assertGreater(len(set(kinds)), 5)
        for box in big_boxes() + [(10, (), ()), (10, tuple(range(10)), ()), (11, (0,), (((3,), 1),)), (16, (), ()),
                                  (10, (), (((tuple(range(10))), 1),))]:
            assert_refused(self, TooMany, least_bars, box)
            assert_refused(self, TooMany, least_mends, box)

    def test_nine_things_in_pairs(self):
        pairs = tuple([(pair, 1) for pair in itertools.combinations(range(9), 2)])
        # An odd count of musts can't be paired off, but any eight of them can; with a may all nine can.
        self.assertEqual(soon(self, least_bars, (9, (), pairs[:32])), [tuple(range(9))])
        self.assertEqual(soon(self, least_mends, (9, (), pairs[:32])), [(thing,) for thing in range(9)])
        self.assertEqual(soon(self, least_bars, (9, (4,), pairs[4:])), [])

    def test_told_lists_are_the_askers_own(self):
        for box in boxes_with_bars()[:40]:
            for ask in (least_bars, least_mends):
                kept = copy.deepcopy(box)
                told = ask(box)
                again = list(told)
                told.append("more")
                told[0] = None
                self.assertEqual(ask(box), again)
                self.assertEqual(box, kept)


if __name__ == "__main__":
    unittest.main()
