"""The promise over the whole program, point 4, on drawn boxes of each kind; and 2 and 3 of all functions."""

import copy
import random
import unittest

from eachonce.bars import is_bar, least_bars, least_mends, narrowed
from eachonce.boxes import is_box, musts_of
from eachonce.changes import all_musts, named_anew, side_by_side
from eachonce.countpapers import count_paper, counted
from eachonce.counts import many_by_lots, sizes, weights
from eachonce.coverings import covering_at, first, is_covering, many, next_behind, number_of, rank_of
from eachonce.desk import Desk
from eachonce.errors import NoCovering
from eachonce.lightest import lightest
from eachonce.needs import behind, forced, in_all, in_none
from eachonce.papers import paper_of, shown
from eachonce.shares import are_shares, shares, speaks_against
from eachonce.shop import Shop
from eachonce.smaller import led_back, led_there, turned_smaller
from eachonce.texts import read, written
from eachonce.wholes import are_hues, are_wholes, wholes
from samples import (
    HAND_MADE, all_coverings, all_lots, assert_refused, drawn_order, in_a_row, least_of, made_box, rank, share_no_thing,
    weight_of,
)

QUESTIONS = (
    musts_of, written, many, first, sizes, weights, many_by_lots, count_paper, lightest, paper_of, shares, wholes,
    least_bars, least_mends, in_all, in_none, forced, turned_smaller, all_musts,
)


def drawn_boxes():
    """With and without coverings, with all, some and no mays, with weights below 0, pieces alike among them."""
    chance = random.Random(4)
    boxes = list(HAND_MADE)
    for _ in range(60):
        box = made_box(chance, chance.randint(1, 6), chance.randint(0, 8), chance.randint(1, 4))
        boxes.append(box)
        boxes.append((box[0], (), box[2]))
        boxes.append((box[0], tuple(range(box[0])), box[2]))
        boxes.append((box[0], box[1][:1], box[2] + box[2][:1]))
    return boxes


BOXES = [(box, all_coverings(box)) for box in drawn_boxes()]


def row_of(box, covering, there, absent):
    return tuple([there if number in covering else absent for number in range(len(box[2]))])


class Kinds(unittest.TestCase):
    def test_there_are_boxes_of_each_kind(self):
        kinds = {}
        for box, coverings in BOXES:
            self.assertIs(is_box(box), True)
            kind = (len(coverings) > 0, len(box[1]) > 0, any(weight < 0 for things, weight in box[2]))
            kinds[kind] = kinds.get(kind, 0) + 1
        self.assertEqual(len(kinds), 8)
        self.assertGreater(min(kinds.values()), 5)


class Numbers(unittest.TestCase):
    def test_there_and_back_in_one_order(self):
        for box, coverings in BOXES:
            self.assertEqual(many(box), len(coverings))
            self.assertEqual([covering_at(box, number) for number in range(len(coverings))], coverings)
            self.assertEqual([number_of(box, covering) for covering in coverings], list(range(len(coverings))))
            for covering in coverings:
                self.assertEqual(rank_of(box, covering), rank(box, covering))
            self.assertEqual(first(box), coverings[0] if coverings else None)
            self.assertEqual([next_behind(box, covering) for covering in coverings], (coverings + [None])[1:])
            for number in (-1, len(coverings)):
                assert_refused(self, NoCovering, covering_at, box, number)

    def test_as_many_as_sizes_weights_papers_and_lots_tell(self):
        for box, coverings in BOXES:
            told = [sum(sizes(box)), sum([count for weight, count in weights(box)]), counted(box, count_paper(box)),
                    many_by_lots(box)]
            self.assertEqual(told, [len(coverings)] * 4)

    def test_written_and_read(self):
        for box, coverings in BOXES:
            self.assertEqual(read(written(box)), box)


class EitherOr(unittest.TestCase):
    def test_a_lightest_one_or_none(self):
        for box, coverings in BOXES:
            told = shown(box, paper_of(box))
            if coverings:
                best = min([(weight_of(box, some), place) for place, some in enumerate(coverings)])
                self.assertEqual(lightest(box), (best[0], coverings[best[1]]))
                self.assertEqual(told, ("least", (best[0], 1)))
            else:
                self.assertIsNone(lightest(box))
                self.assertEqual(told, ("none",))

    def test_what_a_right_paper_shows_is_true(self):
        # Papers of other boxes, where they are right at all.
        chance = random.Random(15)
        right = 0
        for box, coverings in BOXES:
            for other, _ in chance.sample(BOXES, 12):
                told = shown(box, paper_of(other))
                if told == ("none",):
                    self.assertEqual(coverings, [])
                elif told is not None:
                    top, bottom = told[1]
                    self.assertTrue(all(weight_of(box, covering) * bottom >= top for covering in coverings))
                right += told is not None
                count = counted(box, count_paper(other))
                self.assertIn(count, (None, len(coverings)))
        self.assertGreater(right, 20)

    def test_shares_or_what_speaks_against_them(self):
        for box, coverings in BOXES:
            kind, told = shares(box)
            self.assertEqual([are_shares(box, told), speaks_against(box, told)], [kind == "shares", kind == "against"])
            for covering in coverings:
                self.assertIs(are_shares(box, row_of(box, covering, (1, 1), (0, 1))), True)
            if kind == "against":
                self.assertEqual(coverings, [])

    def test_wholes_or_hues(self):
        for box, coverings in BOXES:
            kind, told = wholes(box)
            self.assertEqual([are_wholes(box, told), are_hues(box, told)], [kind == "wholes", kind == "hues"])
            for covering in coverings:
                self.assertIs(are_wholes(box, row_of(box, covering, 1, 0)), True)
            if kind == "hues":
                self.assertEqual(coverings, [])

    def test_never_both(self):
        # What speaks against the one box is held against the shares and the wholes of each other.
        told = [(box, shares(box), wholes(box)) for box, coverings in BOXES]
        for box, parts, numbers in told:
            for _, other_parts, other_numbers in told[::7]:
                self.assertFalse(are_shares(box, other_parts[1]) and parts[0] == "against")
                self.assertFalse(speaks_against(box, other_parts[1]) and parts[0] == "shares")
                self.assertFalse(are_wholes(box, other_numbers[1]) and numbers[0] == "hues")
                self.assertFalse(are_hues(box, other_numbers[1]) and numbers[0] == "wholes")


class BarsAndMends(unittest.TestCase):
    def test_no_covering_just_where_all_things_are_a_bar(self):
        for box, coverings in BOXES:
            self.assertIs(is_bar(box, tuple(range(box[0]))), coverings == [])

    def test_bars_and_least_ones(self):
        for box, coverings in BOXES:
            bars = least_bars(box)
            for lot in all_lots(box[0]):
                self.assertIs(is_bar(box, lot), any(set(bar) <= set(lot) for bar in bars))
                self.assertIs(is_bar(box, lot), many(narrowed(box, lot)) == 0)

    def test_bars_and_mends_of_one_another(self):
        for box, coverings in BOXES:
            lots = all_lots(box[0])
            bars, mends = least_bars(box), least_mends(box)
            self.assertEqual(mends, least_of([lot for lot in lots if all(set(lot) & set(bar) for bar in bars)]))
            self.assertEqual(bars, least_of([lot for lot in lots if all(set(lot) & set(mend) for mend in mends)]))


class BoxesOfBoxes(unittest.TestCase):
    def test_side_by_side(self):
        chance = random.Random(24)
        for box, coverings in BOXES:
            other, others = chance.choice(BOXES)
            both = side_by_side(box, other)
            told = [covering_at(both, number) for number in range(min(many(both), 300))]
            together = [some + tuple([len(box[2]) + piece for piece in more]) for some in coverings for more in others]
            self.assertEqual(many(both), len(together))
            self.assertEqual(told, together[:300])
            self.assertEqual(both, in_a_row([box, other]))

    def test_named_anew(self):
        chance = random.Random(25)
        for box, coverings in BOXES:
            things, pieces = drawn_order(chance, box[0]), drawn_order(chance, len(box[2]))
            told = named_anew(box, things, pieces)
            come = [tuple(sorted([pieces.index(piece) for piece in covering])) for covering in coverings]
            self.assertEqual(sorted(all_coverings(told)), sorted(come))
            self.assertEqual(weights(told), weights(box))
            self.assertEqual(wholes(told)[0], wholes(box)[0])
            self.assertEqual(shares(told)[0], shares(box)[0])
            bars = [tuple(sorted([things.index(thing) for thing in bar])) for bar in least_bars(box)]
            self.assertEqual(sorted(least_bars(told)), sorted(bars))

    def test_with_pieces_taken(self):
        for box, coverings in BOXES:
            for some in [(number,) for number in range(len(box[2]))] + [covering[::2] for covering in coverings]:
                self.assertTrue(share_no_thing(box, some))
                inner, things, pieces = behind(box, some)
                come = [tuple([pieces[piece] for piece in covering]) for covering in all_coverings(inner)]
                rest = [tuple([k for k in covering if k not in some]) for covering in coverings
                        if set(some) <= set(covering)]
                self.assertEqual(sorted(come), sorted(rest))

    def test_with_mays_made_musts(self):
        for box, coverings in BOXES:
            told = all_musts(box)
            count = len(box[2])
            come = [tuple([piece for piece in covering if piece < count]) for covering in all_coverings(told)]
            self.assertEqual(sorted(come), sorted(coverings))
            self.assertEqual(weights(told), weights(box))

    def test_turned_smaller(self):
        for box, coverings in BOXES:
            inner = turned_smaller(box)[0]
            ends = all_coverings(inner)
            self.assertEqual(sorted([led_back(box, covering) for covering in ends]), sorted(coverings))
            self.assertEqual(sorted([led_there(box, covering) for covering in coverings]), sorted(ends))
            self.assertEqual([led_back(box, led_there(box, covering)) for covering in coverings], coverings)

    def test_what_must_be(self):
        for box, coverings in BOXES:
            taken = [piece for thing, piece in forced(box)]
            self.assertTrue(all(set(taken) <= set(covering) for covering in coverings))
            for number in range(len(box[2])):
                self.assertEqual(number in in_all(box), all(number in covering for covering in coverings))
                self.assertEqual(number in in_none(box), not any(number in covering for covering in coverings))


class ShopsAndDesks(unittest.TestCase):
    def test_a_shop_tells_what_its_box_made_anew_tells(self):
        for box, coverings in BOXES:
            shop = Shop()
            for thing in range(box[0]):
                shop.put_thing(thing not in box[1])
            for things, weight in box[2]:
                shop.put_piece(things, weight)
            self.assertEqual(shop.box(), box)
            self.assertEqual([shop.many(), shop.lightest(), shop.least_bars()],
                             [len(coverings), lightest(box), least_bars(box)])

    def test_a_desk_tells_its_box(self):
        for box, coverings in BOXES:
            desk = Desk()
            for thing in range(box[0]):
                desk.say("may" if thing in box[1] else "must")
            for row in written(box).split("\n")[1:]:
                desk.say("piece " + row)
            self.assertEqual([read(desk.say("box")), desk.say("many")], [box, str(len(coverings))])


class Asking(unittest.TestCase):
    def test_nothing_is_changed_and_the_same_question_has_the_same_answer(self):
        for box, coverings in BOXES[::3]:
            kept = copy.deepcopy(box)
            told = [ask(box) for ask in QUESTIONS]
            shown_first = repr(told)
            # What the asker does to a told list changes nothing.
            for answer in [ask(box) for ask in QUESTIONS]:
                if isinstance(answer, list):
                    answer.reverse()
                    answer.append(None)
            self.assertEqual(repr([ask(box) for ask in reversed(QUESTIONS)][::-1]), shown_first)
            self.assertEqual(repr(told), shown_first)
            self.assertEqual(box, kept)

    def test_what_was_told_may_be_handed_in_again(self):
        for box, coverings in BOXES:
            for other, _ in BOXES[::29]:
                for told in [ask(other) for ask in QUESTIONS]:
                    for ask in (is_covering, counted, shown, are_shares, speaks_against, are_wholes, are_hues):
                        ask(box, told)
                        ask(box, told[1] if isinstance(told, tuple) and len(told) > 1 else told)
                    is_box(told)

    def test_fractions_lots_and_rising_tuples(self):
        for box, coverings in BOXES:
            for lot in least_bars(box) + least_mends(box) + list(turned_smaller(box)[1:]):
                self.assertEqual(lot, tuple(sorted(set(lot))))
            for numbers in (musts_of(box), in_all(box), in_none(box)):
                self.assertEqual(numbers, sorted(set(numbers)))


if __name__ == "__main__":
    unittest.main()
