"""Papers: points 14, 15 and 16, and 4 of them."""

import copy
import itertools
import random
import unittest
from fractions import Fraction

from eachonce.errors import TooMany
from eachonce.lightest import lightest
from eachonce.papers import paper_of, shown
from samples import (
    LONGEST, NO_FRACTIONS, all_coverings, assert_refused, big_boxes, is_fraction_by_words, made_box, odd_things,
    small_boxes, soon, weight_of,
)

NOUGHT = (0, 1)
ONE = (1, 1)
TWO = (2, 1)
HALF = (1, 2)

# Each two of three things, and each by itself, all of weight 2: the lightest weigh 4.
THREE = (3, (), (((0, 1), 2), ((1, 2), 2), ((0, 2), 2), ((0,), 2), ((1,), 2), ((2,), 2)))
THREE_PAPER = ("part", 0, (
    ("price", (NOUGHT, NOUGHT, TWO)), ("price", (NOUGHT, TWO, NOUGHT)), ("price", (NOUGHT, ONE, ONE)),
))
# Without the single ones there is no covering.
PAIRS = (3, (), THREE[2][:3])
PAIRS_PAPER = ("part", 0, (("part", 2, ()), ("part", 1, ())))
# Thing 1 is a may. The coverings weigh 5, 3, 5 - 4.
MAY = (2, (1,), (((0,), 5), ((0, 1), 3), ((1,), -4)))
MAY_PAPER = ("part", 1, (
    ("price", ((5, 1), NOUGHT)), ("price", (NOUGHT, NOUGHT)), ("price", ((5, 1), (-9, 2))),
))


def shown_by_words(box, paper, taken=(), left_out=()):
    """None, or the list of all bounds in the paper, as Python's fractions."""
    done = {thing for number in taken for thing in box[2][number][0]} | set(left_out)
    fits = [number for number, piece in enumerate(box[2]) if not done & set(piece[0])]
    if paper.__class__ is not tuple or len(paper) not in (2, 3):
        return None
    if len(paper) == 3:
        word, thing, papers = paper
        if word != "part" or thing.__class__ is not int or thing not in range(box[0]) or thing in done:
            return None
        cases = [(taken, left_out + (thing,))] if thing in box[1] else []
        cases += [(taken + (number,), left_out) for number in fits if thing in box[2][number][0]]
        if papers.__class__ is not tuple or len(papers) != len(cases):
            return None
        told = [shown_by_words(box, inner, *case) for inner, case in zip(papers, cases)]
        return None if None in told else sum(told, [])
    word, prices = paper
    if word != "price" or prices.__class__ is not tuple or len(prices) != box[0]:
        return None
    if not all(map(is_fraction_by_words, prices)) or any(prices[may][0] > 0 for may in box[1]):
        return None
    prices = [Fraction(*price) for price in prices]
    if any(box[2][number][1] < sum(prices[thing] for thing in box[2][number][0]) for number in fits):
        return None
    return [weight_of(box, taken) + sum((prices[thing] for thing in range(box[0]) if thing not in done), Fraction(0))]


def told_by_words(box, paper):
    bounds = shown_by_words(box, paper)
    if bounds is None:
        return None
    return ("least", (min(bounds).numerator, min(bounds).denominator)) if bounds else ("none",)


class PaperCase(unittest.TestCase):
    def assert_shows(self, box, paper, right):
        with self.subTest(box=box, paper=repr(paper)[:300]):
            kept = repr(paper)
            self.assertEqual(repr(shown(box, paper)), repr(right))
            self.assertEqual(repr(paper), kept)

    def assert_wrong(self, box, paper):
        self.assert_shows(box, paper, None)


class Prices(PaperCase):
    def test_at_the_top(self):
        self.assert_shows(THREE, ("price", (ONE, ONE, ONE)), ("least", (3, 1)))
        self.assert_shows(THREE, ("price", (NOUGHT, NOUGHT, NOUGHT)), ("least", (0, 1)))
        self.assert_shows(THREE, ("price", (TWO, NOUGHT, NOUGHT)), ("least", (2, 1)))
        self.assert_shows(THREE, ("price", ((-LONGEST, 1), TWO, NOUGHT)), ("least", (2 - LONGEST, 1)))

    def test_fractions_that_are_not_whole(self):
        self.assert_shows(THREE, ("price", (HALF, HALF, HALF)), ("least", (3, 2)))
        self.assert_shows(THREE, ("price", ((2, 3), (4, 3), (2, 3))), ("least", (8, 3)))
        self.assert_shows(THREE, ("price", ((1, 3), (1, 6), (1, 2))), ("least", (1, 1)))
        self.assert_shows(THREE, ("price", ((-1, 3), (-1, 6), (1, 2))), ("least", (0, 1)))

    def test_without_things(self):
        self.assert_shows((0, (), ()), ("price", ()), ("least", (0, 1)))
        self.assert_wrong((0, (), ()), ("price", (NOUGHT,)))
        self.assert_wrong((0, (), ()), ("part", 0, ()))

    def test_no_piece_bounds_them(self):
        self.assert_shows((2, (1,), ()), ("price", ((LONGEST, 2), NOUGHT)), ("least", (LONGEST, 2)))

    def test_too_great_for_a_piece_that_fits(self):
        small = (1, 10 ** 59)
        over = (10 ** 59 + 1, 10 ** 59)
        self.assert_wrong(THREE, ("price", (ONE, over, ONE)))
        self.assert_wrong(THREE, ("price", (ONE, ONE, over)))
        self.assert_wrong(THREE, ("price", (over, ONE, ONE)))
        self.assert_wrong(THREE, ("price", (TWO, small, (-1, 1))))
        self.assert_shows(THREE, ("price", (TWO, NOUGHT, (-1, 1))), ("least", (1, 1)))
        for weight in (-10 ** 12, -1, 0, 1, 10 ** 12):
            box = (1, (), (((0,), weight),))
            self.assert_shows(box, ("price", ((weight, 1),)), ("least", (weight, 1)))
            self.assert_wrong(box, ("price", ((weight + 1, 1),)))
            self.assert_wrong(box, ("price", ((weight * 10 ** 40 + 1, 10 ** 40),)))

    def test_of_mays_none_above_0(self):
        box = (2, (1,), (((0,), 5), ((0, 1), 9), ((1,), 9)))
        self.assert_shows(box, ("price", ((5, 1), NOUGHT)), ("least", (5, 1)))
        self.assert_shows(box, ("price", ((5, 1), (-1, 3))), ("least", (14, 3)))
        for price in (ONE, (1, 10 ** 59), (LONGEST, 1)):
            self.assert_wrong(box, ("price", ((5, 1), price)))
            # Not even where the may is done with.
            self.assert_wrong(box, ("part", 1, (("price", ((5, 1), price)),) * 3))
            self.assert_wrong(box, ("part", 0, (("price", (NOUGHT, NOUGHT)), ("price", (NOUGHT, price)))))

    def test_what_is_done_with_counts_for_nothing(self):
        box = (2, (), (((0,), 5), ((1,), 7), ((0, 1), 13)))
        for price in (NOUGHT, (LONGEST, 1), (-LONGEST, 1), (1, 3)):
            paper = ("part", 0, (("price", (price, (7, 1))), ("price", (price, price))))
            self.assert_shows(box, paper, ("least", (12, 1)))

    def test_one_for_too_few_or_too_many_things(self):
        for prices in ((), (NOUGHT,), (NOUGHT,) * 2, (NOUGHT,) * 4, (NOUGHT,) * 16):
            self.assert_wrong(THREE, ("price", prices))

    def test_what_is_no_fraction(self):
        for place in range(3):
            for wrong in NO_FRACTIONS:
                prices = [NOUGHT] * 3
                prices[place] = wrong
                self.assert_wrong(THREE, ("price", tuple(prices)))
        for prices in ([NOUGHT] * 3, {0: NOUGHT}, None, "000", 0, ((NOUGHT, NOUGHT, NOUGHT),)):
            self.assert_wrong(THREE, ("price", prices))


class Parts(PaperCase):
    def test_of_a_must(self):
        self.assert_shows(THREE, THREE_PAPER, ("least", (4, 1)))
        prices = ("price", (NOUGHT, HALF, HALF))
        # What is done with has no price, so it is 2 and what is left: a half, a half, and both.
        self.assert_shows(THREE, ("part", 0, (prices, prices, prices)), ("least", (5, 2)))

    def test_the_least_of_all_bounds(self):
        bounds = ((7, 3), (5, 2), (12, 5))
        for order in itertools.permutations(bounds):
            # Three cases in which the other things are left.
            box = (2, (), (((0,), 0), ((0,), 0), ((0,), 0), ((1,), 9)))
            paper = ("part", 0, tuple([("price", (NOUGHT, bound)) for bound in order]))
            self.assert_shows(box, paper, ("least", (7, 3)))

    def test_of_a_may_left_out_first_then_the_pieces_in_order(self):
        self.assert_shows(MAY, MAY_PAPER, ("least", (1, 1)))
        box = (1, (0,), (((0,), 8), ((0,), 6)))
        nothing = ("price", (NOUGHT,))
        self.assert_shows(box, ("part", 0, (nothing, nothing, nothing)), ("least", (0, 1)))
        # Each case has prices of its own: with piece 1 taken, nothing is left to have one.
        box = (2, (1,), (((0,), 9), ((0, 1), 3), ((1,), 1), ((1,), 2)))
        prices = [("price", (price, NOUGHT)) for price in ((9, 1), (-LONGEST, 1), (9, 1), (8, 1))]
        self.assert_shows(box, ("part", 1, tuple(prices)), ("least", (3, 1)))
        for order in itertools.permutations(range(4)):
            paper = ("part", 1, tuple([prices[place] for place in order]))
            self.assert_shows(box, paper, told_by_words(box, paper))

    def test_the_cases_stand_in_order(self):
        # Of the pieces that hold thing 0 the first leaves thing 1, the second leaves thing 2.
        box = (3, (), (((0, 2), 1), ((0, 1), 1), ((1,), 5), ((2,), 3)))
        one = ("price", (NOUGHT, (5, 1), (99, 1)))
        other = ("price", (NOUGHT, (99, 1), (3, 1)))
        self.assert_shows(box, ("part", 0, (one, other)), ("least", (4, 1)))
        self.assert_wrong(box, ("part", 0, (other, one)))
        # As a may, left out first: then both others are left.
        box = (3, (0,), box[2])
        both = ("price", (NOUGHT, (5, 1), (3, 1)))
        self.assert_shows(box, ("part", 0, (both, one, other)), ("least", (4, 1)))
        for order in ((one, other, both), (one, both, other), (other, one, both), (both, other, one)):
            self.assert_wrong(box, ("part", 0, order))

    def test_a_must_which_no_piece_that_fits_holds(self):
        self.assert_shows((1, (), ()), ("part", 0, ()), ("none",))
        self.assert_shows(PAIRS, PAIRS_PAPER, ("none",))
        self.assert_wrong((1, (), ()), ("part", 0, (("part", 0, ()),)))
        self.assert_wrong((1, (), ()), ("part", 0, (("price", (NOUGHT,)),)))
        # A may which no piece holds has the case in which it is left out.
        self.assert_wrong((1, (0,), ()), ("part", 0, ()))
        self.assert_shows((1, (0,), ()), ("part", 0, (("price", (NOUGHT,)),)), ("least", (0, 1)))
        self.assert_wrong(PAIRS, ("part", 0, ()))

    def test_some_parts_with_prices_and_some_without(self):
        box = (2, (), (((0,), 3), ((0, 1), 8)))
        price = ("price", (NOUGHT, NOUGHT))
        self.assert_shows(box, ("part", 0, (("part", 1, ()), price)), ("least", (8, 1)))
        self.assert_shows(box, ("part", 0, (price, price)), ("least", (3, 1)))
        self.assert_wrong(box, ("part", 0, (price, ("part", 1, ()))))

    def test_within_parts(self):
        inner = ("part", 1, (("price", (NOUGHT,) * 3), ("part", 2, (("price", (NOUGHT,) * 3),))))
        paper = ("part", 0, THREE_PAPER[2][:2] + (inner,))
        self.assert_shows(THREE, paper, ("least", (4, 1)))

    def test_a_thing_below_0_beyond_or_done_with(self):
        for thing in (-1, -3, 3, 4, LONGEST, -LONGEST, True, False, None, "0", (0,), [0], {}, ()):
            self.assert_wrong(THREE, ("part", thing, THREE_PAPER[2]))
        self.assert_wrong(THREE, ("part", 0, THREE_PAPER[2][:2] + (("part", 0, ()),)))
        self.assert_wrong(PAIRS, ("part", 0, (("part", 1, ()), ("part", 1, ()))))
        self.assert_wrong(PAIRS, ("part", 0, (("part", 0, ()), ("part", 1, ()))))
        # A may that is left out is done with, too.
        box = (1, (0,), ())
        self.assert_wrong(box, ("part", 0, (("part", 0, (("price", (NOUGHT,)),)),)))
        self.assert_wrong(box, ("part", 0, (("part", 0, ()),)))

    def test_a_piece_that_holds_what_was_left_out_does_not_fit(self):
        box = (2, (1,), (((0, 1), 1), ((0,), 5)))
        paper = ("part", 1, (("price", ((5, 1), NOUGHT)), ("price", (NOUGHT, NOUGHT))))
        self.assert_shows(box, paper, ("least", (1, 1)))
        self.assert_wrong(box, ("part", 1, (("price", ((6, 1), NOUGHT)), ("price", (NOUGHT, NOUGHT)))))
        paper = ("part", 1, (("part", 0, (("price", (NOUGHT, NOUGHT)),)), ("price", (NOUGHT, NOUGHT))))
        self.assert_shows(box, paper, ("least", (1, 1)))

    def test_papers_too_few_too_many_or_no_tuple(self):
        papers = THREE_PAPER[2]
        for wrong in ((), papers[:1], papers[:2], papers + papers[:1], papers + ((),), papers + (None,), list(papers),
                      (papers,), {0: papers}, None, "", 3, (list(papers[0]),) + papers[1:]):
            self.assert_wrong(THREE, ("part", 0, wrong))
        for box in (MAY, (2, (0, 1), MAY[2])):
            self.assert_wrong(box, ("part", 1, MAY_PAPER[2][1:]))
            self.assert_wrong(box, ("part", 1, MAY_PAPER[2] + MAY_PAPER[2][:1]))

    def test_one_wrong_paper_within(self):
        wrong = ("price", (NOUGHT, NOUGHT, (3, 1)))
        for place in range(3):
            papers = list(THREE_PAPER[2])
            papers[place] = wrong if place != 1 else ("price", (NOUGHT, (3, 1), NOUGHT))
            self.assert_wrong(THREE, ("part", 0, tuple(papers)))
        self.assert_wrong(PAIRS, ("part", 0, (PAIRS_PAPER[2][0], None)))
        self.assert_wrong(PAIRS, ("part", 0, (None, PAIRS_PAPER[2][1])))


class Anything(PaperCase):
    def test_other_words_and_lengths(self):
        prices = (NOUGHT,) * 3
        for paper in ((), ("price",), ("part",), ("price", prices, ()), ("price", prices, prices), ("part", 0),
                      ("part", 0, THREE_PAPER[2], ()), ("Price", prices), ("prices", prices), ("PART", 0, ()),
                      ("parts",) + THREE_PAPER[1:], ("price",) + THREE_PAPER[1:], ("part", prices), (0, prices),
                      (None, prices), (prices, "price"), (("price",), prices), (prices,), ["price", prices],
                      list(THREE_PAPER), "price", "part", {"price": prices}, ("none",), ("least", ONE), prices):
            self.assert_wrong(THREE, paper)
            self.assert_wrong(THREE, ("part", 0, THREE_PAPER[2][:2] + (paper,)))

    def test_odd_things_in_each_place(self):
        for odd in odd_things() + [True, False, 0, 1, 3]:
            for paper in (odd, (odd,), ("price", odd), ("price", (odd,) * 3), ("price", (NOUGHT, odd, NOUGHT)),
                          ("price", (NOUGHT, (odd, 1), NOUGHT)), ("price", (NOUGHT, (1, odd), NOUGHT)), (odd, NOUGHT),
                          ("part", odd, THREE_PAPER[2]), ("part", 0, odd), ("part", 0, (odd,) * 3), (odd, 0, ()),
                          ("part", 0, THREE_PAPER[2][:2] + (odd,)), ("part", 0, THREE_PAPER[2], odd)):
                self.assert_shows(THREE, paper, told_by_words(THREE, paper))
                self.assert_shows((0, (), ()), paper, told_by_words((0, (), ()), paper))

    def test_against_the_words_of_the_document(self):
        chance = random.Random(14)
        kinds = {}

        def some_fraction():
            told = Fraction(chance.randint(-6, 3), chance.randint(1, 3))
            return (told.numerator, told.denominator) if chance.random() < 0.98 else chance.choice(NO_FRACTIONS)

        def some_paper(box, taken, left_out):
            done = {thing for number in taken for thing in box[2][number][0]} | set(left_out)
            things = [thing for thing in range(box[0]) if thing not in done or chance.random() < 0.02]
            if not things or chance.random() < 0.3:
                return ("price", tuple([some_fraction() for _ in range(box[0])]))
            thing = chance.choice(things)
            cases = [(taken, left_out + (thing,))] if thing in box[1] else []
            for number, piece in enumerate(box[2]):
                if thing in piece[0] and (not done & set(piece[0]) or chance.random() < 0.02):
                    cases.append((taken + (number,), left_out))
            return ("part", thing, tuple([some_paper(box, *case) for case in cases]))

        for box in small_boxes():
            heavy = (box[0], box[1], tuple([(things, weight + 3) for things, weight in box[2]]))
            best = lightest(heavy)
            for _ in range(30):
                paper = some_paper(heavy, (), ())
                right = told_by_words(heavy, paper)
                self.assert_shows(heavy, paper, right)
                kinds[right and right[0]] = kinds.get(right and right[0], 0) + 1
                # What a right paper shows is true.
                if right == ("none",):
                    self.assertIsNone(best)
                elif right is not None and best is not None:
                    self.assertLessEqual(Fraction(*right[1]), best[0])
        self.assertGreater(min(kinds[None], kinds["none"], kinds["least"]), 50)


def papers_in(paper):
    return 1 + sum([papers_in(inner) for inner in paper[2]]) if paper[0] == "part" else 1


def fullest(things, count):
    return tuple(itertools.islice(itertools.cycle(itertools.combinations(range(things), 2)), count))


class PaperOf(PaperCase):
    def check(self, box):
        with self.subTest(box=box):
            paper = soon(self, paper_of, box)
            told = soon(self, shown, box, paper)
            best = lightest(box)
            self.assertEqual(told, ("none",) if best is None else ("least", (best[0], 1)))
            self.assertEqual(told_by_words(box, paper), told)
            return told[0]

    def test_small_boxes(self):
        told = [self.check(box) for box in small_boxes()]
        self.assertGreater(min(told.count("none"), told.count("least")), 20)
        for box in small_boxes()[:40]:
            self.assertEqual(shown(box, paper_of(box)) == ("none",), not all_coverings(box))

    def test_up_to_ten_things(self):
        chance = random.Random(16)
        told = []
        for _ in range(120):
            made = made_box(chance, chance.randint(7, 10), chance.choice((8, 12, 20, 32)), chance.randint(2, 5))
            told.append(self.check(made))
            told.append(self.check((made[0], (), made[2])))
        self.assertGreater(min(told.count("none"), told.count("least")), 20)

    def test_where_prices_at_the_top_do_not_do(self):
        self.check(THREE)
        self.check(PAIRS)
        # An odd count of things, by pairs: as musts there is no covering, as mays one stays alone.
        for things in (3, 5, 7, 9):
            pairs = fullest(things, 32)
            self.assertEqual(self.check((things, (), tuple([(pair, 1) for pair in pairs]))), "none")
            self.assertEqual(self.check((things, tuple(range(things)), tuple([(pair, -1) for pair in pairs]))), "least")
            self.assertEqual(self.check((things, (0, 2), tuple([(pair, -5 + pair[0]) for pair in pairs]))), "least")

    def test_beside_things_on_which_nothing_hangs(self):
        # Three by pairs, and seven others by three or four pieces each.
        pairs = tuple([(pair, -2) for pair in fullest(3, 6)])
        singles = tuple([((3 + number % 7,), number % 3) for number in range(26)])
        self.assertEqual(self.check((10, (), pairs + singles)), "none")
        self.assertEqual(self.check((10, (0, 1, 2), pairs + singles)), "least")
        self.assertEqual(self.check((10, tuple(range(10)), singles + pairs)), "least")
        self.assertEqual(self.check((10, tuple(range(1, 10)), singles + pairs)), "least")
        # So the papers do not part by the others.
        self.assertEqual(papers_in(paper_of((10, (), pairs + singles))), 5)
        self.assertEqual(papers_in(paper_of((10, (), singles + pairs))), 5)
        self.assertLess(papers_in(paper_of((10, (0, 1, 2), pairs + singles))), 10)
        self.assertLess(papers_in(paper_of((10, tuple(range(10)), singles + pairs))), 10)

    def test_by_few_papers(self):
        pairs = fullest(9, 32)
        self.assertLess(papers_in(paper_of((9, (), tuple([(pair, 1) for pair in pairs])))), 400)
        self.assertLess(papers_in(paper_of((9, tuple(range(9)), tuple([(pair, -1) for pair in pairs])))), 600)
        # By thing 0 there would be two cases, by thing 2 there is one.
        box = (4, (), (((0, 1), 1), ((0, 1), 2), ((1, 2), 1), ((1, 3), 1)))
        self.assertEqual(papers_in(paper_of(box)), 2)

    def test_of_triples(self):
        chance = random.Random(10)
        for _ in range(20):
            triples = chance.sample(list(itertools.combinations(range(10), 3)), 32)
            pieces = tuple([(triple, chance.randint(-9, 9)) for triple in triples])
            self.assertEqual(self.check((10, (), pieces)), "none")
            self.assertEqual(self.check((10, tuple(range(10)), pieces)), "least")
            self.assertEqual(self.check((10, (9,), pieces)), "least" if lightest((10, (9,), pieces)) else "none")

    def test_weights_at_the_bounds_and_somewhat_beyond(self):
        for end in (10 ** 12, 10 ** 40):
            pieces = tuple([(pair, end if sum(pair) % 2 else -end) for pair in fullest(7, 25)])
            pieces += tuple([((thing,), end) for thing in range(7)])
            for mays in ((), (0, 3), tuple(range(7))):
                self.assertEqual(self.check((7, mays, pieces)), "least")

    def test_at_the_edges(self):
        self.assertEqual(shown((0, (), ()), paper_of((0, (), ()))), ("least", (0, 1)))
        self.assertEqual(shown((10, (), ()), paper_of((10, (), ()))), ("none",))
        for mays in ((), tuple(range(10))):
            self.check((10, mays, tuple([((number % 10,), number - 16) for number in range(32)])))
            self.check((10, mays, ((tuple(range(10)), 5),) * 32))

    def test_more_than_ten_things(self):
        for things in (11, 12, 16, 17):
            assert_refused(self, TooMany, paper_of, (things, (), ()))
            assert_refused(self, TooMany, paper_of, (things, tuple(range(things)), ()))
            assert_refused(self, TooMany, paper_of, (things, (), ((tuple(range(things)), 1),)))
        for box in big_boxes():
            assert_refused(self, TooMany, paper_of, box)

    def test_papers_of_bigger_boxes_are_read(self):
        for box in big_boxes():
            heaviest = ("price", ((-100, 1),) * 16)
            self.assertEqual(shown(box, heaviest), ("least", (-1600, 1)))

    def test_the_same_answer_again_and_nothing_changed(self):
        for box in small_boxes()[:30]:
            kept = copy.deepcopy(box)
            self.assertEqual(paper_of(box), paper_of(box))
            self.assertEqual(box, kept)

    def test_of_another_box_it_shows_nothing_wrong(self):
        boxes = small_boxes()[:70]
        papers = [paper_of(box) for box in boxes]
        for box in boxes:
            best = lightest(box)
            for paper in papers:
                told = shown(box, paper)
                self.assertEqual(told, told_by_words(box, paper))
                if told == ("none",):
                    self.assertIsNone(best)
                elif told is not None and best is not None:
                    self.assertLessEqual(Fraction(*told[1]), best[0])


if __name__ == "__main__":
    unittest.main()
