"""Count papers: point 11, and 4 of them."""

import copy
import random
import unittest

from eachonce.countpapers import count_paper, counted
from eachonce.coverings import many
from samples import LONGEST, all_coverings, big_boxes, made_box, odd_things, small_boxes, soon

# Thing 1 is a may; three coverings: (0,), (0, 2) and (1,).
BOX = (2, (1,), (((0,), 1), ((0, 1), 1), ((1,), 1)))
FULL = ((0, 1), 1)
PAPER = (FULL, ((0,), 2), ((), 3))


def cases_by_words(box, lot):
    lacked = min(set(range(box[0])) - set(lot))
    cases = [set(lot) | {lacked}] if lacked in box[1] else []
    for things, weight in box[2]:
        if lacked in things and not set(things) & set(lot):
            cases.append(set(lot) | set(things))
    return [tuple(sorted(case)) for case in cases]


def counted_by_words(box, paper):
    """Of a tuple of tuples of a lot and a whole number."""
    ahead = {}
    for lot, number in paper:
        if lot in ahead:
            return None
        if len(lot) == box[0]:
            right = number == 1
        else:
            cases = cases_by_words(box, lot)
            right = all(case in ahead for case in cases) and number == sum(ahead[case] for case in cases)
        if not right:
            return None
        ahead[lot] = number
    return paper[-1][1] if paper and paper[-1][0] == () else None


class Counted(unittest.TestCase):
    def assert_shows(self, box, paper, number):
        with self.subTest(box=box, paper=repr(paper)[:200]):
            kept = repr(paper)
            told = counted(box, paper)
            self.assertEqual(told, number)
            self.assertIs(told.__class__, number.__class__)
            self.assertEqual(repr(paper), kept)

    def test_right_papers(self):
        self.assert_shows(BOX, PAPER, 3)
        # Rows that are not needed do no harm where they are right, too.
        self.assert_shows(BOX, (FULL, ((1,), 1), ((0,), 2), ((), 3)), 3)
        self.assert_shows(BOX, (FULL, ((0,), 2), ((1,), 1), ((), 3)), 3)

    def test_without_things(self):
        self.assert_shows((0, (), ()), (((), 1),), 1)
        for number in (0, 2, -1, True, None):
            self.assert_shows((0, (), ()), (((), number),), None)

    def test_no_case_counts_0(self):
        self.assert_shows((1, (), ()), (((), 0),), 0)
        self.assert_shows((1, (), ()), (((), 1),), None)
        self.assert_shows((2, (), (((0,), 1),)), (((0,), 0), ((), 0)), 0)
        self.assert_shows((2, (), (((0,), 1),)), (((), 0),), None)

    def test_a_lot_counts_as_often_as_it_is_a_case(self):
        box = (1, (0,), (((0,), 1), ((0,), 1), ((0,), 5)))
        self.assert_shows(box, (((0,), 1), ((), 4)), 4)
        for number in (1, 2, 3, 5):
            self.assert_shows(box, (((0,), 1), ((), number)), None)

    def test_a_number_one_off(self):
        for place in range(3):
            for off in (-1, 1, LONGEST):
                rows = list(PAPER)
                rows[place] = (rows[place][0], rows[place][1] + off)
                self.assert_shows(BOX, tuple(rows), None)
        # One off, and all that comes of it reckoned on.
        self.assert_shows(BOX, (((0, 1), 2), ((0,), 4), ((), 6)), None)
        self.assert_shows(BOX, (((0, 1), 0), ((0,), 0), ((), 0)), None)
        self.assert_shows(BOX, (FULL, ((0,), 3), ((), 4)), None)

    def test_a_lot_twice(self):
        self.assert_shows(BOX, (FULL, FULL, ((0,), 2), ((), 3)), None)
        self.assert_shows(BOX, (FULL, ((0,), 2), ((0,), 2), ((), 3)), None)
        self.assert_shows(BOX, (FULL, ((0,), 2), FULL, ((), 3)), None)
        self.assert_shows(BOX, PAPER + PAPER, None)
        self.assert_shows(BOX, PAPER + PAPER[-1:], None)

    def test_a_row_of_a_case_behind_or_missing(self):
        self.assert_shows(BOX, (((0,), 2), FULL, ((), 3)), None)
        self.assert_shows(BOX, (FULL, ((), 3), ((0,), 2)), None)
        self.assert_shows(BOX, tuple(reversed(PAPER)), None)
        self.assert_shows(BOX, (((0,), 2), ((), 3)), None)
        self.assert_shows(BOX, (FULL, ((), 3)), None)
        self.assert_shows(BOX, (FULL, ((), 1)), None)
        self.assert_shows(BOX, (((), 3),), None)
        # A missing row does not count 0 either.
        self.assert_shows(BOX, (((0,), 0), ((), 0)), None)
        self.assert_shows(BOX, (((), 0),), None)

    def test_a_last_row_of_another_lot(self):
        self.assert_shows(BOX, (FULL,), None)
        self.assert_shows(BOX, (FULL, ((0,), 2)), None)
        self.assert_shows(BOX, PAPER + (((1,), 1),), None)

    def test_a_wrong_row_anywhere(self):
        for place in range(4):
            for wrong in (((1,), 0), ((1,), 2), ((1,), True), ((2,), 1), ((1, 0), 1), ((1, 1), 1), ((-1,), 1), None):
                self.assert_shows(BOX, PAPER[:place] + (wrong,) + PAPER[place:], None)

    def test_truths_are_no_numbers_and_no_things(self):
        self.assert_shows(BOX, (((0, 1), True), ((0,), 2), ((), 3)), None)
        self.assert_shows(BOX, (((0, True), 1), ((0,), 2), ((), 3)), None)
        self.assert_shows(BOX, (FULL, ((False,), 2), ((), 3)), None)
        self.assert_shows((1, (), (((0,), 1),)), (((0,), 1), ((), True)), None)
        self.assert_shows((1, (), ()), (((), False),), None)

    def test_lists_in_the_place_of_tuples(self):
        self.assert_shows(BOX, list(PAPER), None)
        self.assert_shows(BOX, ([(0, 1), 1], ((0,), 2), ((), 3)), None)
        self.assert_shows(BOX, (FULL, ([0], 2), ((), 3)), None)
        self.assert_shows(BOX, (FULL, ((0,), 2), ([], 3)), None)
        self.assert_shows(BOX, (FULL, ((0,), 2), [(), 3]), None)

    def test_rows_of_other_lengths_and_no_rows(self):
        self.assert_shows(BOX, (), None)
        self.assert_shows((0, (), ()), (), None)
        for row in ((), ((),), ((), 3, 3), ((), 3, ()), (3, ()), 3):
            self.assert_shows(BOX, PAPER[:2] + (row,), None)

    def test_lots_that_are_none(self):
        for lot in ((0, 2), (2,), (-1,), (1, 0), (0, 0), (LONGEST,), (-LONGEST,), ("0",), None, 0, "", {}):
            self.assert_shows(BOX, (FULL, (lot, 2), ((), 3)), None)
            self.assert_shows(BOX, ((lot, 1),) + PAPER, None)

    def test_of_anything(self):
        for odd in odd_things() + [True, False, 0, 1, 3]:
            for paper in (odd, (odd,), PAPER[:2] + (odd,), (odd,) + PAPER, PAPER[:2] + ((odd, 3),),
                          (FULL, ((odd,), 2), ((), 3)), (FULL, ((0,), odd), ((), 3)), [odd], {(): odd}):
                self.assert_shows(BOX, paper, 3 if repr(paper) == repr(PAPER) else None)

    def test_against_the_words_of_the_document(self):
        chance = random.Random(11)
        rights = 0
        for box in small_boxes():
            paper = count_paper(box)
            for _ in range(40):
                rows = list(paper)
                for _ in range(chance.randint(1, 2)):
                    place = chance.randrange(len(rows) + 1)
                    lot = tuple([thing for thing in range(box[0]) if chance.random() < 0.5])
                    # Beside the lots which the coverings meet, others, with the number that is theirs or another.
                    known = dict(rows[:place])
                    full = len(lot) == box[0]
                    right = 1 if full else sum([known.get(case, 0) for case in cases_by_words(box, lot)])
                    rows[place:place + chance.randint(0, 1)] = [(lot, right + chance.choice((0, 0, 0, 1, -1)))]
                right = counted_by_words(box, tuple(rows))
                rights += right is not None
                self.assert_shows(box, tuple(rows), right)
        self.assertGreater(rights, 100)


class CountPapers(unittest.TestCase):
    def check_form(self, box, paper):
        self.assertIs(paper.__class__, tuple)
        for row in paper:
            self.assertEqual((row.__class__, len(row), row[0].__class__, row[1].__class__), (tuple, 2, tuple, int))
        self.assertEqual(counted_by_words(box, paper), counted(box, paper))

    def test_small_boxes(self):
        for box in small_boxes():
            with self.subTest(box=box):
                paper = count_paper(box)
                self.check_form(box, paper)
                self.assertEqual(counted(box, paper), len(all_coverings(box)))

    def test_big_boxes(self):
        chance = random.Random(3)
        for box in big_boxes() + [made_box(chance, 16, 32, longest) for longest in (2, 3, 4, 5, 6, 16)]:
            paper = soon(self, count_paper, box)
            self.check_form(box, paper)
            self.assertEqual(soon(self, counted, box, paper), many(box))

    def test_somewhat_beyond_the_bounds(self):
        box = (18, tuple(range(17)), tuple([((number % 18,), 10 ** 13) for number in range(35)]))
        self.assertEqual(counted(box, count_paper(box)), 3 ** 17)

    def test_the_same_answer_again_and_nothing_changed(self):
        for box in small_boxes()[:20]:
            kept = copy.deepcopy(box)
            self.assertEqual(count_paper(box), count_paper(box))
            self.assertEqual(box, kept)

    def test_of_another_box_it_shows_nothing_wrong(self):
        boxes = small_boxes()[:60]
        for box in boxes:
            for other in boxes:
                told = counted(other, count_paper(box))
                self.assertIn(told, (None, many(other)))


if __name__ == "__main__":
    unittest.main()
