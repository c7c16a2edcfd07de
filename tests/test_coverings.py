"""Coverings, their ranks and their numbers: points 7 and 8."""

import copy
import functools
import itertools
import unittest

from eachonce.coverings import covering_at, first, is_covering, many, next_behind, number_of, rank_of
from eachonce.errors import NoCovering
from samples import (
    BIG_BLOCKS, BIG_RING, BIG_SINGLES, BLOCKS, LONGEST, all_coverings, assert_refused, big_boxes, odd_things, rank,
    small_boxes, soon,
)

# Pieces 0, 2 and 4 together, or 3 and 4 with may 2 left out or not.
PLAIN = (4, (2,), (((0, 1), 1), ((0, 2), 1), ((2,), 1), ((0, 1), -3), ((3,), 2)))


def wrong_for(box):
    """Things that are no covering of this box, though some look like one."""
    pieces = len(box[2])
    coverings = all_coverings(box)
    wrong = [(-1,), (pieces,), (pieces + 1,), (LONGEST,), (-LONGEST,), tuple(range(pieces + 1)), (True,), (False,)]
    for covering in coverings[:4] + coverings[-4:]:
        wrong += [list(covering), str(covering), {number: True for number in covering}, (covering,), [covering]]
        wrong += [(-1,) + covering, covering + (pieces,), covering + (LONGEST,), covering + (None,), covering + ("0",)]
        if covering:
            wrong += [covering + covering[-1:], covering[:1] + covering, covering[1:] + (str(covering[0]),)]
            wrong += [covering[:-1] + (covering[-1] - pieces,), covering[:-1] + ((covering[-1],),)]
        if len(covering) > 1:
            wrong += [tuple(reversed(covering)), covering[1:] + covering[:1]]
        for place, number in enumerate(covering):
            if number < 2:
                wrong.append(covering[:place] + (bool(number),) + covering[place + 1:])
    return wrong


class IsCovering(unittest.TestCase):
    def test_plain(self):
        for some in ((3, 4), (0, 4), (0, 2, 4), (2, 3, 4)):
            self.assertIs(is_covering(PLAIN, some), True)
        for some in ((), (0,), (4,), (0, 3, 4), (1, 4), (0, 1, 4), (1, 2, 4), (0, 2), (0, 1, 2, 3, 4)):
            self.assertIs(is_covering(PLAIN, some), False)

    def test_all_sets_of_pieces(self):
        for box in small_boxes():
            coverings = all_coverings(box)
            for size in range(len(box[2]) + 1):
                for some in itertools.combinations(range(len(box[2])), size):
                    self.assertIs(is_covering(box, some), some in coverings, (box, some))

    def test_all_short_tuples_of_numbers(self):
        for box in small_boxes()[:40]:
            coverings = all_coverings(box)
            numbers = range(-2, len(box[2]) + 2)
            for size in range(4):
                for some in itertools.product(numbers, repeat=size):
                    self.assertIs(is_covering(box, some), some in coverings, (box, some))

    def test_without_things(self):
        self.assertIs(is_covering((0, (), ()), ()), True)
        for thing in ([], {}, "", None, 0, False, (0,), ((),), (-1,)):
            self.assertIs(is_covering((0, (), ()), thing), False)

    def test_of_anything(self):
        for box in [PLAIN] + small_boxes()[:30] + big_boxes():
            for thing in odd_things() + [True, False, 0, 1, -1, box]:
                self.assertIs(is_covering(box, thing), False, repr(thing)[:200])

    def test_of_what_looks_like_a_covering(self):
        for box in [PLAIN] + small_boxes():
            for thing in wrong_for(box):
                self.assertIs(is_covering(box, thing), False, (box, thing))

    def test_wrong_parts_at_any_place_and_depth(self):
        for odd in odd_things():
            for thing in ((odd,), (odd, 4), (3, odd), (3, odd, 4), (3, 4, odd), [3, 4, odd], {3: odd}):
                self.assertIs(is_covering(PLAIN, thing), False, repr(thing)[:200])

    def test_nothing_is_changed(self):
        for thing in odd_things():
            kept = copy.deepcopy(thing)
            is_covering(PLAIN, thing)
            self.assertEqual(repr(thing), repr(kept))


class Ranks(unittest.TestCase):
    def test_plain(self):
        self.assertEqual(rank_of(PLAIN, (3, 4)), (3, 3, -1, 4))
        self.assertEqual(rank_of(PLAIN, (0, 2, 4)), (0, 0, 2, 4))
        self.assertEqual(rank_of((0, (), ()), ()), ())
        self.assertEqual(rank_of((2, (0, 1), ()), ()), (-1, -1))

    def test_of_all_coverings(self):
        for box in small_boxes():
            for covering in all_coverings(box):
                told = rank_of(box, covering)
                self.assertIs(told.__class__, tuple)
                self.assertEqual(told, rank(box, covering))


class Numbers(unittest.TestCase):
    def check(self, box):
        coverings = all_coverings(box)
        self.assertEqual(many(box), len(coverings))
        self.assertEqual(first(box), coverings[0] if coverings else None)
        for number, covering in enumerate(coverings):
            self.assertEqual(repr(covering_at(box, number)), repr(covering))
            self.assertEqual(number_of(box, covering), number)
            self.assertEqual(next_behind(box, covering), (coverings + [None])[number + 1])

    def test_plain(self):
        told = [covering_at(PLAIN, number) for number in range(many(PLAIN))]
        self.assertEqual(told, [(0, 4), (0, 2, 4), (3, 4), (2, 3, 4)])

    def test_small_boxes(self):
        kinds = {True: 0, False: 0}
        for box in small_boxes():
            with self.subTest(box=box):
                self.check(box)
                kinds[first(box) is None] += 1
        self.assertGreater(min(kinds.values()), 20)

    def test_somewhat_beyond_the_bounds(self):
        box = (18, tuple(range(17)), tuple([((number % 18,), 10 ** 13) for number in range(35)]))
        self.assertEqual(many(box), 3 ** 17)
        self.assertEqual(number_of(box, covering_at(box, 10 ** 7)), 10 ** 7)

    def test_no_covering_has_this_number(self):
        for box in [PLAIN] + small_boxes():
            count = many(box)
            for number in (-1, -2, -count - 1, count, count + 1, 10 ** 20, LONGEST, -LONGEST):
                assert_refused(self, NoCovering, covering_at, box, number)

    def test_the_number_and_the_next_of_what_is_no_covering(self):
        for box in [PLAIN] + small_boxes():
            for thing in wrong_for(box):
                assert_refused(self, NoCovering, number_of, box, thing)
                assert_refused(self, NoCovering, next_behind, box, thing)

    def test_the_number_and_the_next_of_anything(self):
        for box in [PLAIN, (0, (), ())] + small_boxes()[20:25]:
            for thing in odd_things() + [True, False, 0, 1]:
                assert_refused(self, NoCovering, number_of, box, thing)
                assert_refused(self, NoCovering, next_behind, box, thing)

    def test_sets_of_pieces_that_do_not_cover(self):
        for box in small_boxes():
            coverings = all_coverings(box)
            for size in range(3):
                for some in itertools.combinations(range(len(box[2])), size):
                    if some not in coverings:
                        assert_refused(self, NoCovering, number_of, box, some)
                        assert_refused(self, NoCovering, next_behind, box, some)

    def test_the_same_answer_again(self):
        for box in [PLAIN] + small_boxes()[:20]:
            kept = copy.deepcopy(box)
            for ask in (many, first, lambda asked: [covering_at(asked, number) for number in range(many(asked))]):
                self.assertEqual([ask(box), ask(box)], [ask(kept), ask(kept)])
            self.assertEqual(box, kept)


def count_by_things(box):
    """Another way to count: thing by thing, with what is held or left out so far."""
    @functools.lru_cache(None)
    def count(thing, held):
        if thing == box[0]:
            return 1
        if thing in held:
            return count(thing + 1, held)
        told = count(thing + 1, held | {thing}) if thing in box[1] else 0
        for things, weight in box[2]:
            if thing in things and not held & set(things):
                told += count(thing + 1, held | set(things))
        return told
    return count(0, frozenset())


class BigBoxes(unittest.TestCase):
    def test_many(self):
        for box in big_boxes():
            self.assertEqual(soon(self, many, box), count_by_things(box))
        self.assertEqual(many(BIG_SINGLES), 3 ** 16)
        # Each thing of the ring is left out, held by itself or in a pair: so it is a Pell-Lucas number.
        self.assertEqual(many(BIG_RING), 1331714)

    def test_numbers_there_and_back(self):
        for box in big_boxes():
            count = many(box)
            numbers = [0, 1, count // 3, count // 2, count - 2, count - 1]
            told = [soon(self, covering_at, box, number) for number in numbers]
            self.assertEqual(soon(self, first, box), told[0])
            ranks = [rank(box, covering) for covering in told]
            self.assertEqual(ranks, sorted(set(ranks)))
            for number, covering in zip(numbers, told):
                self.assertIs(is_covering(box, covering), True)
                self.assertEqual(soon(self, number_of, box, covering), number)
                follower = covering_at(box, number + 1) if number + 1 < count else None
                self.assertEqual(soon(self, next_behind, box, covering), follower)
            for number in (-1, count, LONGEST):
                assert_refused(self, NoCovering, covering_at, box, number)

    def test_the_next_ones_in_the_order_of_their_ranks(self):
        for box in big_boxes():
            start = many(box) // 2
            covering = covering_at(box, start)
            for number in range(start, start + 30):
                follower = next_behind(box, covering)
                self.assertLess(rank(box, covering), rank(box, follower))
                self.assertEqual(number_of(box, follower), number + 1)
                covering = follower

    def test_blocks_in_a_row_by_those_of_each_block(self):
        # The ranks are those of the blocks one behind the other, so the last block's coverings turn quickest.
        by_block = [all_coverings(block) for block in BLOCKS]
        count = 1
        for coverings in by_block:
            count *= len(coverings)
        self.assertGreater(count, 3 * 10 ** 6)
        self.assertEqual(many(BIG_BLOCKS), count)
        for number in [0, 1, 2, count - 1] + list(range(5, count, 60013)):
            rest, places = number, []
            for coverings in reversed(by_block):
                rest, place = divmod(rest, len(coverings))
                places.insert(0, place)
            parts = [by_block[block][place] for block, place in enumerate(places)]
            covering = tuple([8 * block + piece for block, part in enumerate(parts) for piece in part])
            self.assertEqual(covering_at(BIG_BLOCKS, number), covering)
            self.assertEqual(number_of(BIG_BLOCKS, covering), number)

    def test_of_anything(self):
        for box in big_boxes():
            for thing in odd_things() + [tuple(range(32)), tuple(range(33))]:
                assert_refused(self, NoCovering, number_of, box, thing)
                assert_refused(self, NoCovering, next_behind, box, thing)


if __name__ == "__main__":
    unittest.main()
