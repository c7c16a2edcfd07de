"""The shop: points 29 and 30, and 4 of it."""

import random
import unittest

from eachonce.bars import least_bars
from eachonce.boxes import is_box
from eachonce.coverings import many
from eachonce.errors import Held, NoDeed, NoPiece, NoThing, NoWeight, OnceError, TooMany
from eachonce.lightest import lightest
from eachonce.shop import Shop
from samples import (
    LONGEST, REFUSALS, all_coverings, assert_refused, big_boxes, no_lots, odd_things, small_boxes, weight_of,
)

NOTHING = (0, (), ())
MOST = 10 ** 12
NO_WEIGHTS = (MOST + 1, -MOST - 1, LONGEST, -LONGEST, True, False, None, "1", "", (), (1,), [], [1], {}, (1, 1))


def shop_of(box):
    """A shop into which this box was put, thing by thing and piece by piece."""
    shop = Shop()
    for thing in range(box[0]):
        shop.put_thing(thing not in box[1])
    for things, weight in box[2]:
        shop.put_piece(things, weight)
    return shop


def no_numbers(count):
    """What is no number from 0 to count less 1."""
    return [-1, -count, -count - 1, count, count + 1, LONGEST, -LONGEST, True, False, None, "0", "", (0,), [0], [], (),
            {}, {0: 0}, (0, 0)] if count else [0, 1, -1, True, False, None, "0", (), (0,), [], {}]


def answers(shop):
    """All that a shop tells; its box last."""
    try:
        bars = shop.least_bars()
    except OnceError as refusal:
        bars = refusal.__class__
    return [shop.many(), shop.lightest(), bars, shop.box()]


def undone_to_the_beginning(shop):
    """The boxes behind each undoing, until no deed is left."""
    told = []
    while True:
        try:
            shop.undo()
        except NoDeed:
            return told
        told.append(shop.box())


class ShopCase(unittest.TestCase):
    def assert_tells(self, shop, box):
        """The shop tells this box, and of it what the functions tell; twice."""
        self.assertIs(is_box(box), True)
        for _ in range(2):
            self.assertEqual(shop.box(), box)
            self.assertEqual(repr(shop.box()), repr(box))
            self.assertEqual(shop.many(), many(box))
            self.assertEqual(shop.lightest(), lightest(box))
            if box[0] > 9:
                assert_refused(self, TooMany, shop.least_bars)
            else:
                self.assertEqual(shop.least_bars(), least_bars(box))

    def assert_refused_and_unchanged(self, shop, kind, deed, *handed):
        before = answers(shop)
        kept = repr(handed)
        assert_refused(self, kind, deed, *handed)
        self.assertEqual(answers(shop), before)
        self.assertEqual(repr(handed), kept)


class Deeds(ShopCase):
    def test_at_first(self):
        self.assert_tells(Shop(), NOTHING)
        self.assertEqual(answers(Shop()), [1, (0, ()), [], NOTHING])

    def test_each_deed_and_the_box_behind_it(self):
        shop = Shop()
        self.assertEqual(shop.put_thing(True), 0)
        self.assert_tells(shop, (1, (), ()))
        self.assertEqual(shop.put_thing(False), 1)
        self.assert_tells(shop, (2, (1,), ()))
        self.assertEqual(shop.put_thing(True), 2)
        self.assertEqual(shop.put_thing(False), 3)
        self.assert_tells(shop, (4, (1, 3), ()))
        self.assertEqual(shop.put_piece((0, 3), 5), 0)
        self.assertEqual(shop.put_piece((2,), -MOST), 1)
        self.assertEqual(shop.put_piece((0, 2, 3), MOST), 2)
        self.assertEqual(shop.put_piece((2,), -MOST), 3)
        self.assert_tells(shop, (4, (1, 3), (((0, 3), 5), ((2,), -MOST), ((0, 2, 3), MOST), ((2,), -MOST))))
        self.assertIsNone(shop.turn_thing(1))
        self.assert_tells(shop, (4, (3,), (((0, 3), 5), ((2,), -MOST), ((0, 2, 3), MOST), ((2,), -MOST))))
        self.assertIsNone(shop.turn_thing(0))
        self.assert_tells(shop, (4, (0, 3), (((0, 3), 5), ((2,), -MOST), ((0, 2, 3), MOST), ((2,), -MOST))))
        self.assertIsNone(shop.turn_thing(2))
        self.assertEqual(shop.box()[1], (0, 2, 3))
        self.assertIsNone(shop.take_piece(1))
        self.assert_tells(shop, (4, (0, 2, 3), (((0, 3), 5), ((0, 2, 3), MOST), ((2,), -MOST))))
        self.assertIsNone(shop.take_thing(1))
        self.assert_tells(shop, (3, (0, 1, 2), (((0, 2), 5), ((0, 1, 2), MOST), ((1,), -MOST))))
        self.assertIsNone(shop.take_piece(2))
        self.assertIsNone(shop.take_piece(0))
        self.assert_tells(shop, (3, (0, 1, 2), (((0, 1, 2), MOST),)))
        self.assertIsNone(shop.undo())
        self.assert_tells(shop, (3, (0, 1, 2), (((0, 2), 5), ((0, 1, 2), MOST))))
        self.assertEqual(shop.put_piece((1,), 0), 2)
        self.assertEqual(shop.put_thing(True), 3)
        self.assert_tells(shop, (4, (0, 1, 2), (((0, 2), 5), ((0, 1, 2), MOST), ((1,), 0))))

    def test_a_thing_turned_twice_is_as_it_was(self):
        for box in small_boxes()[:40]:
            shop = shop_of(box)
            for thing in range(box[0]):
                shop.turn_thing(thing)
                mays = set(box[1]) ^ {thing}
                self.assertEqual(shop.box(), (box[0], tuple(sorted(mays)), box[2]))
                shop.turn_thing(thing)
                self.assertEqual(shop.box(), box)

    def test_pieces_taken_out(self):
        for box in small_boxes():
            for piece in range(len(box[2])):
                shop = shop_of(box)
                shop.take_piece(piece)
                self.assertEqual(shop.box(), (box[0], box[1], box[2][:piece] + box[2][piece + 1:]))
                shop.undo()
                self.assertEqual(shop.box(), box)

    def test_things_taken_out_or_held(self):
        taken, held = 0, 0
        for box in small_boxes():
            shop = shop_of(box)
            for thing in range(box[0]):
                if any(thing in things for things, weight in box[2]):
                    assert_refused(self, Held, shop.take_thing, thing)
                    self.assertEqual(shop.box(), box)
                    held += 1
                else:
                    shop.take_thing(thing)
                    self.assertEqual(shop.box(), (
                        box[0] - 1, tuple([may - (may > thing) for may in box[1] if may != thing]),
                        tuple([(tuple([one - (one > thing) for one in things]), weight) for things, weight in box[2]])))
                    shop.undo()
                    self.assertEqual(shop.box(), box)
                    taken += 1
        self.assertGreater(min(taken, held), 50)

    def test_a_thing_held_no_more_can_be_taken_out(self):
        shop = shop_of((2, (0,), (((0, 1), 1), ((1,), 2))))
        assert_refused(self, Held, shop.take_thing, 0)
        shop.take_piece(0)
        shop.take_thing(0)
        self.assert_tells(shop, (1, (), (((0,), 2),)))
        assert_refused(self, Held, shop.take_thing, 0)
        shop.undo()
        shop.undo()
        assert_refused(self, Held, shop.take_thing, 0)

    def test_two_shops_have_nothing_in_common(self):
        one, other = Shop(), Shop()
        one.put_thing(True)
        self.assertEqual(other.box(), NOTHING)
        assert_refused(self, NoDeed, other.undo)
        other.put_thing(False)
        other.put_piece((0,), 3)
        self.assertEqual(one.box(), (1, (), ()))
        one.undo()
        assert_refused(self, NoDeed, one.undo)
        self.assertEqual(other.box(), (1, (0,), (((0,), 3),)))
        self.assertEqual(undone_to_the_beginning(other), [(1, (0,), ()), NOTHING])


class Undone(ShopCase):
    def test_no_deed_is_left(self):
        shop = Shop()
        self.assert_refused_and_unchanged(shop, NoDeed, shop.undo)
        shop.put_thing(True)
        shop.undo()
        self.assert_refused_and_unchanged(shop, NoDeed, shop.undo)
        self.assertEqual(shop.box(), NOTHING)

    def test_an_undoing_is_no_deed(self):
        shop = shop_of((2, (), ()))
        shop.undo()
        shop.undo()
        assert_refused(self, NoDeed, shop.undo)

    def test_each_deed_undone_and_done_anew(self):
        deeds = (
            ("put_thing", True), ("put_thing", False), ("put_thing", True), ("put_piece", (0,), 4),
            ("put_piece", (0, 2), -4), ("turn_thing", 1), ("turn_thing", 0), ("take_piece", 0), ("take_thing", 1),
            ("put_piece", (1,), 9), ("take_piece", 0), ("take_thing", 0),
        )
        shop = Shop()
        told = [[shop.box(), None]]
        for name, *handed in deeds:
            told.append([None, getattr(shop, name)(*handed)])
            told[-1][0] = shop.box()
        for place in range(len(deeds), 0, -1):
            # Undone, done anew, and undone again.
            self.assert_tells(shop, told[place][0])
            shop.undo()
            self.assert_tells(shop, told[place - 1][0])
            name, *handed = deeds[place - 1]
            self.assertEqual(getattr(shop, name)(*handed), told[place][1])
            self.assertEqual(shop.box(), told[place][0])
            shop.undo()
            self.assert_tells(shop, told[place - 1][0])
        assert_refused(self, NoDeed, shop.undo)
        for place, (name, *handed) in enumerate(deeds):
            self.assertEqual(getattr(shop, name)(*handed), told[place + 1][1])
            self.assertEqual(shop.box(), told[place + 1][0])

    def test_many_deeds(self):
        shop = Shop()
        shop.put_thing(True)
        for _ in range(1000):
            shop.turn_thing(0)
        self.assertEqual(undone_to_the_beginning(shop), [(1, (0,), ()), (1, (), ())] * 500 + [NOTHING])


class Refused(ShopCase):
    def test_the_seventeenth_thing(self):
        shop = shop_of((15, (), ()))
        self.assertEqual(shop.put_thing(False), 15)
        for must in (True, False):
            self.assert_refused_and_unchanged(shop, TooMany, shop.put_thing, must)
        shop.take_thing(3)
        self.assertEqual(shop.put_thing(True), 15)
        self.assert_refused_and_unchanged(shop, TooMany, shop.put_thing, True)
        shop.undo()
        self.assertEqual(shop.put_thing(True), 15)

    def test_the_thirty_third_piece(self):
        shop = shop_of((1, (), (((0,), 1),) * 31))
        self.assertEqual(shop.put_piece((0,), 1), 31)
        self.assert_refused_and_unchanged(shop, TooMany, shop.put_piece, (0,), 1)
        shop.take_piece(31)
        self.assertEqual(shop.put_piece((0,), 2), 31)
        self.assert_refused_and_unchanged(shop, TooMany, shop.put_piece, (0,), 1)

    def test_in_their_order(self):
        full = shop_of((1, (), (((0,), 1),) * 32))
        for things in ((0,), (), (1,), [0], None, (True,)):
            for weight in (1, MOST + 1, None, True):
                self.assert_refused_and_unchanged(full, TooMany, full.put_piece, things, weight)
        shop = shop_of((1, (), (((0,), 1),) * 31))
        for things in ((), (1,), [0], None, (True,), (False,)):
            for weight in (1, MOST + 1, None, True):
                self.assert_refused_and_unchanged(shop, NoThing, shop.put_piece, things, weight)
        for weight in NO_WEIGHTS:
            self.assert_refused_and_unchanged(shop, NoWeight, shop.put_piece, (0,), weight)
        self.assertEqual(shop.put_piece((0,), 1), 31)

    def test_pieces_of_what_is_no_lot_of_one_thing_or_more(self):
        for count in (0, 1, 2, 5, 16):
            shop = shop_of((count, (), ()))
            for things in no_lots(count) + [()]:
                with self.subTest(count=count, things=things):
                    self.assert_refused_and_unchanged(shop, NoThing, shop.put_piece, things, 1)
            if count:
                self.assertEqual(shop.put_piece(tuple(range(count)), 1), 0)

    def test_weights(self):
        shop = shop_of((1, (), ()))
        for number, weight in enumerate((MOST, -MOST, 0, 1, -1)):
            self.assertEqual(shop.put_piece((0,), weight), number)
        for weight in NO_WEIGHTS:
            with self.subTest(weight=weight):
                self.assert_refused_and_unchanged(shop, NoWeight, shop.put_piece, (0,), weight)
        self.assertEqual([weight for _, weight in shop.box()[2]], [MOST, -MOST, 0, 1, -1])

    def test_things_and_pieces_that_are_not_there(self):
        for box in (NOTHING, (1, (), ()), (2, (0,), (((0,), 1), ((0, 1), 2))), (3, (), (((1,), 1),) * 3)):
            shop = shop_of(box)
            for thing in no_numbers(box[0]):
                with self.subTest(box=box, thing=thing):
                    self.assert_refused_and_unchanged(shop, NoThing, shop.turn_thing, thing)
                    self.assert_refused_and_unchanged(shop, NoThing, shop.take_thing, thing)
            for piece in no_numbers(len(box[2])):
                with self.subTest(box=box, piece=piece):
                    self.assert_refused_and_unchanged(shop, NoPiece, shop.take_piece, piece)

    def test_of_anything(self):
        shop = shop_of((2, (0,), (((0,), 1), ((0, 1), 2))))
        for odd in odd_things() + [True, False]:
            with self.subTest(odd=repr(odd)[:200]):
                self.assert_refused_and_unchanged(shop, NoThing, shop.turn_thing, odd)
                self.assert_refused_and_unchanged(shop, NoThing, shop.take_thing, odd)
                self.assert_refused_and_unchanged(shop, NoPiece, shop.take_piece, odd)
                self.assert_refused_and_unchanged(shop, NoThing, shop.put_piece, odd, odd)
                self.assert_refused_and_unchanged(shop, NoThing, shop.put_piece, (odd,), 1)
                self.assert_refused_and_unchanged(shop, NoThing, shop.put_piece, (0, odd), 1)
                self.assert_refused_and_unchanged(shop, NoThing, shop.put_piece, [odd], 1)
                self.assert_refused_and_unchanged(shop, NoWeight, shop.put_piece, (0,), odd)

    def test_what_is_refused_leaves_the_deeds_to_undo(self):
        shop = shop_of((2, (0,), (((0,), 1),)))
        for _ in range(3):
            for kind, deed, handed in (
                (NoThing, shop.turn_thing, (2,)), (NoThing, shop.take_thing, (-1,)), (Held, shop.take_thing, (0,)),
                (NoPiece, shop.take_piece, (1,)), (NoThing, shop.put_piece, ((), 1)),
                (NoWeight, shop.put_piece, ((0,), MOST + 1)),
            ):
                assert_refused(self, kind, deed, *handed)
        self.assertEqual(undone_to_the_beginning(shop), [(2, (0,), ()), (1, (0,), ()), NOTHING])
        full = shop_of((16, (), (((0,), 1),) * 32))
        assert_refused(self, TooMany, full.put_thing, True)
        assert_refused(self, TooMany, full.put_piece, (0,), 1)
        full.undo()
        self.assertEqual(full.box(), (16, (), (((0,), 1),) * 31))


class Asked(ShopCase):
    def test_small_boxes_against_all_coverings(self):
        for box in small_boxes():
            shop = shop_of(box)
            coverings = all_coverings(box)
            self.assertEqual(shop.many(), len(coverings))
            best = min([(weight_of(box, covering), place) for place, covering in enumerate(coverings)], default=None)
            self.assertEqual(shop.lightest(), None if best is None else (best[0], coverings[best[1]]))
            self.assert_tells(shop, box)

    def test_big_boxes(self):
        for box in big_boxes():
            self.assert_tells(shop_of(box), box)

    def test_nine_things_and_ten(self):
        shop = shop_of((9, (), (((0,), 1),)))
        self.assertEqual(shop.least_bars(), [(thing,) for thing in range(1, 9)])
        shop.put_thing(False)
        assert_refused(self, TooMany, shop.least_bars)
        shop.undo()
        self.assertEqual(shop.least_bars(), [(thing,) for thing in range(1, 9)])

    def test_told_lists_may_be_changed(self):
        shop = shop_of((3, (), (((1,), 1),)))
        told = shop.least_bars()
        self.assertEqual(told, [(0,), (2,)])
        told.append((1,))
        told[0] = None
        self.assertEqual(shop.least_bars(), [(0,), (2,)])
        again = shop.least_bars()
        shop.turn_thing(0)
        self.assertEqual(again, [(0,), (2,)])
        self.assertEqual(shop.least_bars(), [(2,)])

    def test_asking_is_no_deed(self):
        shop = shop_of((2, (0,), (((0,), 1),)))
        for _ in range(3):
            answers(shop)
        self.assertEqual(undone_to_the_beginning(shop), [(2, (0,), ()), (1, (0,), ()), NOTHING])

    def test_what_was_told_stays(self):
        shop = shop_of((2, (0,), (((0,), 1), ((1,), 2))))
        box, best = shop.box(), shop.lightest()
        kept = repr((box, best))
        shop.take_piece(1)
        shop.put_thing(True)
        self.assertEqual(repr((box, best)), kept)


class Model:
    """A shop by the document's words: the box as lists, and a copy of it for each deed."""

    def __init__(self):
        self.musts, self.pieces, self.copies = [], [], []

    def keep(self):
        self.copies.append((list(self.musts), [(list(things), weight) for things, weight in self.pieces]))

    def box(self):
        mays = tuple([thing for thing, must in enumerate(self.musts) if not must])
        return (len(self.musts), mays, tuple([(tuple(things), weight) for things, weight in self.pieces]))

    def put_thing(self, must):
        if len(self.musts) == 16:
            return TooMany
        self.keep()
        self.musts.append(must)
        return len(self.musts) - 1

    def put_piece(self, things, weight):
        if len(self.pieces) == 32:
            return TooMany
        if not things or list(things) != sorted(set(things)) or not set(things) <= set(range(len(self.musts))):
            return NoThing
        if abs(weight) > MOST:
            return NoWeight
        self.keep()
        self.pieces.append((list(things), weight))
        return len(self.pieces) - 1

    def turn_thing(self, thing):
        if thing not in range(len(self.musts)):
            return NoThing
        self.keep()
        self.musts[thing] = not self.musts[thing]
        return None

    def take_thing(self, thing):
        if thing not in range(len(self.musts)):
            return NoThing
        if any(thing in things for things, weight in self.pieces):
            return Held
        self.keep()
        self.musts.pop(thing)
        self.pieces = [([one - 1 if one > thing else one for one in things], weight) for things, weight in self.pieces]
        return None

    def take_piece(self, piece):
        if piece not in range(len(self.pieces)):
            return NoPiece
        self.keep()
        self.pieces.pop(piece)
        return None

    def undo(self):
        if not self.copies:
            return NoDeed
        self.musts, self.pieces = self.copies.pop()
        return None


def drawn_lot(chance, things):
    if things == 0 or chance.random() < 0.1:
        return chance.choice(((), (things,), (-1,), (0, things), (1, 0), (0, 0)))
    return tuple(sorted(chance.sample(range(things), min(things, chance.choice((1, 1, 2, 2, 3))))))


def drawn_deed(chance, box, growing):
    """Of a growing shop most deeds put something in."""
    names = ["put_thing", "put_piece"] * (1 + growing) + ["turn_thing", "take_thing", "take_piece", "undo"]
    name = chance.choice(names)
    if name == "put_thing":
        return (name, chance.random() < 0.5)
    if name == "put_piece":
        return (name, drawn_lot(chance, box[0]), chance.choice((1, 2, 3, -1, -2, 0, 5, MOST, -MOST, MOST + 1)))
    if name == "undo":
        return (name,)
    return (name, chance.randint(-1, len(box[2]) if name == "take_piece" else box[0]))


class Drawn(ShopCase):
    def follow(self, seed, deeds, growing):
        chance = random.Random(seed)
        shop, model = Shop(), Model()
        kinds = {}
        for _ in range(deeds):
            name, *handed = drawn_deed(chance, model.box(), growing)
            right = getattr(model, name)(*handed)
            if right in REFUSALS:
                assert_refused(self, right, getattr(shop, name), *handed)
            else:
                told = getattr(shop, name)(*handed)
                self.assertEqual((told, told.__class__), (right, right.__class__))
            kinds[(name, right in REFUSALS)] = kinds.get((name, right in REFUSALS), 0) + 1
            self.assert_tells(shop, model.box())
        copies = len(model.copies)
        for _ in range(copies):
            model.undo()
            shop.undo()
            self.assertEqual(shop.box(), model.box())
        assert_refused(self, NoDeed, shop.undo)
        return kinds

    def test_few_things(self):
        together = {}
        for seed in range(12):
            for kind, count in self.follow(seed, 60, 0).items():
                together[kind] = together.get(kind, 0) + count
        for name in ("put_piece", "take_thing", "take_piece", "turn_thing", "undo"):
            self.assertGreater(min(together.get((name, True), 0), together.get((name, False), 0)), 5, name)

    def test_many_things_and_pieces(self):
        together = {}
        for seed in range(100, 103):
            for kind, count in self.follow(seed, 120, 3).items():
                together[kind] = together.get(kind, 0) + count
        self.assertGreater(together[("put_thing", True)], 5)


if __name__ == "__main__":
    unittest.main()
