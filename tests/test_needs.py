"""Pieces in all coverings and in none, by force, and boxes behind some pieces: points 21 to 23, and 4 of them."""

import copy
import itertools
import random
import unittest

from eachonce.boxes import is_box
from eachonce.coverings import many
from eachonce.errors import NoPiece
from eachonce.needs import behind, forced, in_all, in_none
from samples import (
    BLOCKS, LONGEST, all_coverings, assert_refused, big_boxes, few_mays, in_a_row, made_box, no_lots, odd_things,
    share_no_thing, small_boxes, soon,
)

PLAIN = (4, (3,), (((0, 1), 5), ((1, 2), -1), ((2,), 7), ((2, 3), 0), ((0, 1, 2, 3), 4), ((3,), 2)))
PAIRS = (3, (), (((0, 1), 1), ((1, 2), 1), ((0, 2), 1)))
# Thing 0 is held by piece 0 alone, so piece 1 is in none; thing 2 is left to pieces 2 and 3.
NEEDY = (3, (), (((0, 1), 1), ((1, 2), 1), ((2,), 1), ((2,), 1)))
# For each of 13 mays two pieces or three, behind the needy box: many millions of coverings.
BIG_NEEDY = in_a_row([NEEDY, (13, tuple(range(13)), tuple([((number % 13,), number) for number in range(28)]))])
# Behind them.
BIG_NEEDY_TURNED = in_a_row([(13, tuple(range(13)), tuple([((number % 13,), 1) for number in range(28)])), NEEDY])


def boxes():
    return small_boxes() + [few_mays(box) for box in small_boxes() if len(box[1]) > 1]


def in_all_by_words(box):
    coverings = all_coverings(box)
    return [number for number in range(len(box[2])) if all(number in covering for covering in coverings)]


def in_none_by_words(box):
    coverings = all_coverings(box)
    return [number for number in range(len(box[2])) if not any(number in covering for covering in coverings)]


def forced_by_words(box):
    taken = []
    while True:
        held = {thing for _, number in taken for thing in box[2][number][0]}
        free = [number for number in range(len(box[2])) if not held & set(box[2][number][0])]
        steps = []
        for thing in range(box[0]):
            holders = [number for number in free if thing in box[2][number][0]]
            if thing not in box[1] and thing not in held and len(holders) == 1:
                steps.append((thing, holders[0]))
        if not steps:
            return taken
        taken.append(steps[0])


def behind_by_words(box, some):
    held = {thing for number in some for thing in box[2][number][0]}
    things = [thing for thing in range(box[0]) if thing not in held]
    pieces = [number for number in range(len(box[2])) if not held & set(box[2][number][0])]
    inner = tuple([(tuple([things.index(one) for one in box[2][k][0]]), box[2][k][1]) for k in pieces])
    return ((len(things), tuple([things.index(may) for may in box[1] if may in things]), inner),
            tuple(things), tuple(pieces))


def sets_apart(box, longest):
    """All sets of up to so many pieces that share no thing."""
    numbers = range(len(box[2]))
    sets = [some for length in range(longest + 1) for some in itertools.combinations(numbers, length)]
    return [some for some in sets if share_no_thing(box, some)]


class InAllInNone(unittest.TestCase):
    def test_plain(self):
        self.assertEqual(in_all(PLAIN), [])
        self.assertEqual(in_none(PLAIN), [1])
        self.assertEqual(in_all(NEEDY), [0])
        self.assertEqual(in_none(NEEDY), [1])
        self.assertEqual(in_all((0, (), ())), [])
        self.assertEqual(in_none((0, (), ())), [])
        self.assertEqual(in_all((1, (), (((0,), 1),))), [0])
        self.assertEqual(in_all((1, (0,), (((0,), 1),))), [])
        self.assertEqual(in_none((1, (0,), (((0,), 1),))), [])

    def test_where_there_is_no_covering(self):
        self.assertEqual(in_all(PAIRS), [0, 1, 2])
        self.assertEqual(in_none(PAIRS), [0, 1, 2])
        self.assertEqual(in_all((1, (), ())), [])
        self.assertEqual(in_none((1, (), ())), [])
        lonely = (16, (), tuple([((number % 15,), 1) for number in range(32)]))
        self.assertEqual(soon(self, in_all, lonely), list(range(32)))
        self.assertEqual(soon(self, in_none, lonely), list(range(32)))

    def test_by_no_force(self):
        # Each must is held by two pieces or more, and yet piece 3 is in all coverings, and 0 to 2 are in none.
        box = (4, (), PAIRS[2] + (((0, 1, 2), 1), ((3,), 1), ((3,), 1)))
        self.assertEqual(forced(box), [])
        self.assertEqual(in_all(box), [3])
        self.assertEqual(in_none(box), [0, 1, 2])

    def test_against_all_coverings_of_small_boxes(self):
        all_told, none_told = 0, 0
        for box in boxes():
            told = in_all(box)
            self.assertEqual(told, in_all_by_words(box), box)
            none = in_none(box)
            self.assertEqual(none, in_none_by_words(box), box)
            self.assertEqual([told.__class__, none.__class__], [list, list])
            if many(box) > 0:
                all_told += len(told)
                none_told += len(none)
        self.assertGreater(min(all_told, none_told), 20)

    def test_many_millions_of_coverings(self):
        self.assertGreater(many(BIG_NEEDY), 5 * 10 ** 6)
        self.assertEqual(soon(self, in_all, BIG_NEEDY), [0])
        self.assertEqual(soon(self, in_none, BIG_NEEDY), [1])
        self.assertEqual(soon(self, in_all, BIG_NEEDY_TURNED), [28])
        self.assertEqual(soon(self, in_none, BIG_NEEDY_TURNED), [29])

    def test_blocks_in_a_row(self):
        blocks = (PLAIN, BLOCKS[3], NEEDY, BLOCKS[0])
        all_together, none_together, pieces = [], [], 0
        for block in blocks:
            all_together += [number + pieces for number in in_all_by_words(block)]
            none_together += [number + pieces for number in in_none_by_words(block)]
            pieces += len(block[2])
        self.assertEqual(in_all(in_a_row(blocks)), all_together)
        self.assertEqual(in_none(in_a_row(blocks)), none_together)

    def test_big_boxes_by_the_coverings_of_the_box_behind_each_piece(self):
        chance = random.Random(21)
        made = [made_box(chance, 16, 32, longest) for longest in (2, 3, 4, 5, 6) for _ in range(4)]
        for box in big_boxes() + made + [few_mays(box) for box in made]:
            count = many(box)
            counts = [many(behind(box, (number,))[0]) for number in range(len(box[2]))]
            self.assertEqual(soon(self, in_all, box), [number for number in range(32) if counts[number] == count])
            self.assertEqual(soon(self, in_none, box), [number for number in range(32) if counts[number] == 0])

    def test_told_lists_are_the_askers_own(self):
        for box in boxes()[:60]:
            kept = copy.deepcopy(box)
            for ask in (in_all, in_none, forced):
                told = ask(box)
                again = list(told)
                told.append("more")
                told[0] = None
                self.assertEqual(ask(box), again)
                self.assertEqual(box, kept)


class Forced(unittest.TestCase):
    def test_plain(self):
        self.assertEqual(forced(NEEDY), [(0, 0)])
        self.assertEqual(forced((3, (), NEEDY[2][:3])), [(0, 0), (2, 2)])
        self.assertEqual(forced(PAIRS), [])
        self.assertEqual(forced((0, (), ())), [])
        self.assertEqual(forced((1, (), ())), [])
        # A may forces nothing.
        self.assertEqual(forced((2, (0,), (((0,), 1), ((1,), 1)))), [(1, 1)])
        # A must that is held already forces nothing again.
        self.assertEqual(forced((2, (), (((0, 1), 1),))), [(0, 0)])

    def test_the_least_must_of_those_that_there_are_then(self):
        # Thing 2 goes first; then thing 0 has just one piece left, ahead of thing 3, which had one from the start.
        box = (5, (), (((0, 1), 1), ((0, 4), 1), ((2, 4), 1), ((3,), 1), ((1,), 1)))
        self.assertEqual(forced(box), [(2, 2), (0, 0), (3, 3)])
        # Taken as long as there is such a must, though thing 1 is left without a piece.
        box = (3, (), (((0, 1), 1), ((0, 2), 1), ((2,), 1), ((1, 2), 1)))
        self.assertEqual(forced(box), [])
        box = (4, (), (((0, 1), 1), ((1, 2), 1), ((3,), 1)))
        self.assertEqual(forced(box), [(0, 0), (3, 2)])

    def test_step_by_step_on_small_boxes(self):
        lengths = {}
        for box in boxes():
            told = forced(box)
            self.assertEqual(told, forced_by_words(box), box)
            self.assertEqual([told.__class__] + [step.__class__ for step in told], [list] + [tuple] * len(told))
            lengths[len(told)] = lengths.get(len(told), 0) + 1
        self.assertGreater(min(lengths[length] for length in (0, 1, 2)), 10)
        self.assertGreater(max(lengths), 2)

    def test_each_covering_has_the_pieces_taken(self):
        for box in boxes():
            for thing, piece in forced(box):
                self.assertIn(piece, in_all(box))
                self.assertIn(thing, box[2][piece][0])

    def test_long_ways(self):
        # Each piece that is taken leaves the next must to one piece alone: from both ends, and to the last.
        steps = [((thing, thing + 1), 1) for thing in range(0, 16, 2)]
        bars = [((thing, thing + 1), 1) for thing in range(1, 15, 2)]
        box = (16, (), tuple(steps + bars))
        self.assertEqual(forced(box), [(thing, thing // 2) for thing in range(0, 16, 2)])
        turned = (16, (), tuple((bars + steps)[::-1]))
        self.assertEqual(forced(turned), forced_by_words(turned))
        self.assertEqual(len(forced(turned)), 8)
        chance = random.Random(22)
        for _ in range(60):
            box = few_mays(made_box(chance, 16, 32, 3))
            self.assertEqual(forced(box), forced_by_words(box))


class Behind(unittest.TestCase):
    def test_plain(self):
        self.assertEqual(behind(PLAIN, (0,)), ((2, (1,), (((0,), 7), ((0, 1), 0), ((1,), 2))), (2, 3), (2, 3, 5)))
        self.assertEqual(behind(PLAIN, (0, 2)), ((1, (0,), (((0,), 2),)), (3,), (5,)))
        self.assertEqual(behind(PLAIN, (4,)), ((0, (), ()), (), ()))
        self.assertEqual(behind(PLAIN, (1, 5)), ((1, (), ()), (0,), ()))
        self.assertEqual(behind((0, (), ()), ()), ((0, (), ()), (), ()))

    def test_of_no_pieces(self):
        for box in boxes() + big_boxes():
            self.assertEqual(behind(box, ()), (box, tuple(range(box[0])), tuple(range(len(box[2])))))

    def test_all_sets_of_pieces_of_small_boxes(self):
        for box in boxes():
            kept = copy.deepcopy(box)
            coverings = all_coverings(box)
            for some in sets_apart(box, 3):
                told = behind(box, some)
                self.assertEqual(told, behind_by_words(box, some))
                self.assertEqual([part.__class__ for part in told], [tuple] * 3)
                self.assertIs(is_box(told[0]), True)
                # The coverings of the box that have these pieces, without them.
                rest = [tuple([k for k in covering if k not in some]) for covering in coverings
                        if set(some) <= set(covering)]
                inner = [tuple([told[2][k] for k in covering]) for covering in all_coverings(told[0])]
                self.assertEqual(sorted(inner), sorted(rest))
            self.assertEqual(box, kept)

    def test_pieces_that_share_a_thing(self):
        refused = 0
        for box in boxes():
            for length in (2, 3):
                for some in itertools.combinations(range(len(box[2])), length):
                    if not share_no_thing(box, some):
                        assert_refused(self, NoPiece, behind, box, some)
                        refused += 1
        self.assertGreater(refused, 500)

    def test_what_is_no_rising_tuple_of_numbers_of_pieces(self):
        # Each piece stands alone, so that nothing else speaks against the numbers.
        for count in (0, 1, 2, 5):
            box = (5, (0,), tuple([((number,), 1) for number in range(count)]))
            for thing in no_lots(count):
                with self.subTest(box=box, thing=thing):
                    assert_refused(self, NoPiece, behind, box, thing)
        for thing in ((1, 0), (0, 0), (5,), (-1,), (0, 5), (True,), (0, True), [0], 0, None, "0", (LONGEST,)):
            assert_refused(self, NoPiece, behind, (5, (), tuple([((number,), 1) for number in range(5)])), thing)

    def test_of_anything(self):
        for odd in odd_things() + [True, False, 0, 1]:
            for thing in (odd, (odd,), (0, odd), (odd, 2), [odd], {0: odd}, ((odd,),)):
                plain = thing.__class__ is tuple and all(part.__class__ is int for part in thing)
                for box in (PLAIN, (0, (), ())):
                    rising = plain and all(part in range(len(box[2])) for part in thing) and (
                        sorted(set(thing)) == list(thing))
                    with self.subTest(box=box, thing=repr(thing)[:200]):
                        kept = repr(thing)
                        if rising and share_no_thing(box, thing):
                            self.assertEqual(behind(box, thing), behind_by_words(box, thing))
                        else:
                            assert_refused(self, NoPiece, behind, box, thing)
                        self.assertEqual(repr(thing), kept)

    def test_big_boxes(self):
        chance = random.Random(23)
        for box in big_boxes() + [made_box(chance, 16, 32, 3) for _ in range(10)]:
            for some in chance.sample(sets_apart(box, 3), 40):
                self.assertEqual(behind(box, some), behind_by_words(box, some))

    def test_behind_one_and_then_another(self):
        for box in boxes():
            for some in sets_apart(box, 2):
                if len(some) == 2:
                    first = behind(box, some[:1])
                    second = behind(first[0], (first[2].index(some[1]),))
                    things = tuple([first[1][thing] for thing in second[1]])
                    pieces = tuple([first[2][piece] for piece in second[2]])
                    self.assertEqual(behind(box, some), (second[0], things, pieces))


if __name__ == "__main__":
    unittest.main()
