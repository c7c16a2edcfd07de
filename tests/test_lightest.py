"""The lightest covering: point 13."""

import copy
import functools
import random
import unittest

from eachonce.coverings import is_covering
from eachonce.lightest import lightest
from samples import (
    BIG_BLOCKS, BIG_CROSSED, BIG_RING, BIG_SINGLES, BLOCKS, all_coverings, big_boxes, made_box, small_boxes, soon,
    weight_of,
)

END = 10 ** 12


def one_by_one(box):
    # min takes the first of several that are as light.
    coverings = all_coverings(box)
    if not coverings:
        return None
    covering = min(coverings, key=lambda some: weight_of(box, some))
    return (weight_of(box, covering), covering)


def by_things(box):
    """Another way to find it: thing by thing, the least of all weights with the choices that come to it."""
    @functools.lru_cache(None)
    def least(thing, held):
        if thing == box[0]:
            return (0, ())
        if thing in held:
            return least(thing + 1, held)
        found = []
        if thing in box[1]:
            weight, chosen = least(thing + 1, held | {thing})
            found.append((weight, (-1,) + chosen))
        for number, (things, more) in enumerate(box[2]):
            if thing in things and not held & set(things):
                weight, chosen = least(thing + 1, held | set(things))
                found.append((weight + more, (number,) + chosen))
        return min(found, default=(10 ** 99, ()))
    weight, chosen = least(0, frozenset())
    return (weight, tuple(sorted([number for number in chosen if number >= 0])))


class Lightest(unittest.TestCase):
    def test_plain(self):
        self.assertEqual(lightest((0, (), ())), (0, ()))
        self.assertEqual(lightest((2, (0, 1), ())), (0, ()))
        self.assertEqual(lightest((1, (0,), (((0,), 1),))), (0, ()))
        self.assertEqual(lightest((1, (0,), (((0,), -1),))), (-1, (0,)))
        self.assertEqual(lightest((1, (), (((0,), 9), ((0,), 4), ((0,), 7)))), (4, (1,)))
        self.assertEqual(lightest((2, (), (((1,), END), ((0,), END), ((0, 1), -END)))), (-END, (2,)))
        self.assertEqual(lightest((2, (), (((1,), -END), ((0,), -END), ((0, 1), -END)))), (-2 * END, (0, 1)))

    def test_none(self):
        for box in ((1, (), ()), (2, (0,), (((0,), -5),)), (3, (), (((0, 1), 1), ((1, 2), 1), ((0, 2), 1)))):
            self.assertIsNone(lightest(box))

    def test_of_several_the_first(self):
        # A may left out comes ahead of one that is held for nothing.
        self.assertEqual(lightest((1, (0,), (((0,), 0),))), (0, ()))
        self.assertEqual(lightest((1, (), (((0,), 3), ((0,), 3)))), (3, (0,)))
        # By the ranks (0, 0), (1, 3), (2, 2): the second one and the third are as light.
        self.assertEqual(lightest((2, (), (((0, 1), 9), ((0,), 1), ((0, 1), 2), ((1,), 1)))), (2, (1, 3)))
        # The rank (1, 1) comes behind (0, 2), though the tuple (0, 2) is longer.
        self.assertEqual(lightest((2, (), (((0,), 1), ((0, 1), 2), ((1,), 1)))), (2, (0, 2)))
        # By ranks (1, 2, 2) comes ahead of (3, 3, 0), by the coverings themselves it is the other way about.
        self.assertEqual(lightest((3, (), (((2,), 1), ((0,), 1), ((1, 2), 1), ((0, 1), 1)))), (2, (1, 2)))

    def test_against_all_coverings(self):
        ties = 0
        for box in small_boxes():
            with self.subTest(box=box):
                right = one_by_one(box)
                self.assertEqual(repr(lightest(box)), repr(right))
                if right is not None:
                    ties += [weight_of(box, some) for some in all_coverings(box)].count(right[0]) > 1
        self.assertGreater(ties, 5)

    def test_many_ties(self):
        chance = random.Random(13)
        for _ in range(150):
            made = made_box(chance, chance.randint(1, 6), 10, 3)
            box = (made[0], made[1], tuple([(things, weight % 2 - 1) for things, weight in made[2]]))
            self.assertEqual(lightest(box), one_by_one(box), box)

    def test_big_boxes(self):
        for box in big_boxes():
            told = soon(self, lightest, box)
            self.assertIs(is_covering(box, told[1]), True)
            self.assertEqual(weight_of(box, told[1]), told[0])
        parts = [one_by_one(block) for block in BLOCKS]
        covering = tuple([8 * block + piece for block, part in enumerate(parts) for piece in part[1]])
        self.assertEqual(lightest(BIG_BLOCKS), (sum([part[0] for part in parts]), covering))
        # Each thing by its lighter piece.
        self.assertEqual(lightest(BIG_SINGLES), (-sum(range(1, 17)), tuple(range(16))))
        for box in (BIG_RING, BIG_CROSSED):
            self.assertEqual(lightest(box), by_things(box))

    def test_a_big_box_without_a_covering(self):
        singles = tuple([((number % 15,), number) for number in range(32)])
        self.assertIsNone(soon(self, lightest, (16, tuple(range(15)), singles)))

    def test_somewhat_beyond_the_bounds(self):
        box = (18, (), tuple([((number % 18,), 10 ** 50 + number) for number in range(35)]))
        self.assertEqual(lightest(box), (18 * 10 ** 50 + 153, tuple(range(18))))

    def test_the_same_answer_again_and_nothing_changed(self):
        for box in small_boxes()[:20]:
            kept = copy.deepcopy(box)
            self.assertEqual(lightest(box), lightest(box))
            self.assertEqual(box, kept)


if __name__ == "__main__":
    unittest.main()
