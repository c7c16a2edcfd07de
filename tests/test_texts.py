"""Boxes as texts: point 6."""

import random
import unittest

from eachonce.boxes import is_box
from eachonce.errors import NoText
from eachonce.texts import read, written
from samples import LONGEST, assert_refused, big_boxes, odd_things, small_boxes

END = 10 ** 12
GOOD = (
    ((0, (), ()), "things 0"),
    ((1, (), ()), "things 1"),
    ((16, (), ()), "things 16"),
    ((1, (0,), ()), "things 1 may 0"),
    ((12, (0, 3, 10, 11), ()), "things 12 may 0,3,10,11"),
    ((1, (), (((0,), 0),)), "things 1\n0 0"),
    ((3, (1,), (((0, 1), 5), ((2,), -1), ((0,), 2))), "things 3 may 1\n0,1 5\n2 -1\n0 2"),
    ((3, (), (((0, 1, 2), 10), ((0, 1, 2), 10))), "things 3\n0,1,2 10\n0,1,2 10"),
    ((1, (), (((0,), END), ((0,), -END))), "things 1\n0 1000000000000\n0 -1000000000000"),
    ((16, (15,), (((9, 10, 15), -20),)), "things 16 may 15\n9,10,15 -20"),
    ((2, (0, 1), (((1,), -7),) * 32), "things 2 may 0,1" + "\n1 -7" * 32),
)
# A row of figures that Python's int takes, and that are not 0 to 9.
OTHER_FIGURES = ("\u0663", "\u0967", "\uff11", "\U0001d7ce", "\u00b2")

BAD_HEADS = (
    "", " ", "things", "things ", " things 3", "things  3", "things 3 ", "things\t3", "things 3\t", "things 3\r",
    "things\u00a03", "Things 3", "thing 3", "things: 3", "things 3:", "things=3", "3", "3 things", "0 1", "things x",
    "things 03", "things 00", "things -0", "things +3", "things 3.", "things 3.0", "things 1_0", "things 0x3",
    "things 3,", "things ,3", "things 1,2", "things -", "things --3", "things 3 3", "things 3 4 5", "things things 3",
    "things 3 may", "things 3 may ", "things 3 may  1", "things 3  may 1", "things  3 may 1", " things 3 may 1",
    "things 3 may 1 ", "things 3 may 1 2", "things 3 may 1, 2", "things 3 may 1,", "things 3 may ,1",
    "things 3 may 1,,2", "things 3 may ,", "things 3 may 01", "things 3 may +1", "things 3 may -0", "things 3 may 1,02",
    "things 3 may x", "things 3 may 1;2", "things 3 1", "things 3 mays 1", "things 3 May 1", "things 3 must 1",
    "things may 1", "3 may 1", "may 1", "may 1 things 3", "things 3 may 1 may 2", "things 3 may 1\r", "things 3\x0b",
    "#things 3", "things 3 #", "(3, (), ())",
    # So written, but no box.
    "things 17", "things 18", "things -1", "things -3", "things 3 may 3", "things 3 may 16", "things 0 may 0",
    "things 3 may -1", "things 3 may 1,1", "things 3 may 2,1", "things 3 may 0,2,1", "things 3 may 0,1,2,3",
    "things 17 may 16", "things " + "9" * 13, "things " + "9" * 14, "things " + "9" * 60, "things " + "1" * 9000,
    "things 3 may " + "1" * 9000, "things -" + "1" * 9000,
)
# Behind `things 3 may 1`, or `things 3`.
BAD_PIECES = (
    "", " ", "0", "0 ", " 0", " 0 1", "0  1", "0 1 ", "0 1 1", "0 1 2 3", "0,1", "0, 1 1", "0 ,1 1", "0 , 1 1", "0\t1",
    "0\u00a01", "0 1\t", "0 1\r", "\r0 1", "0 1\x0b", "0 1\x0c", "0 1\x85", "0 1\u2028", ",0 1", "0, 1", ", 1",
    "0,,1 1", "0 1,", "0 ,1", "0 1,2", "00 1", "01 1", "0,01 1", "0 00", "0 01", "0 -01", "0 -00", "0 -0", "-0 1",
    "0,-0 1", "+0 1", "0 +1", "0 +0", "0 --1", "0 -", "0 - 1", "0 -+1", "- 1", "0 1-", "0 1.0", "0 1.", "0 .1",
    "0 1e3", "0 1_0", "0 0x1", "0 one", "a 1", "0 a", "0;1 1", "0.1 1", "0:1", "0 1;", "piece 0 1", "0 weight 1",
    "0 1 may", "may 1", "may 0 1", "things 3", "0 1 #", "#", "(0,) 1", "0 None", "0 True", "True 1",
    # So written, but no piece of this box.
    "3 1", "16 1", "0,3 1", "-1 1", "-1,0 1", "0,0 1", "1,1 1", "1,0 1", "0,2,1 1", "2,1,0 1", "0,1,2,3 1",
    "0 1000000000001", "0 -1000000000001", "0 9999999999999", "0 10000000000000", "0 -10000000000000",
    "0 " + "9" * 60, "0 -" + "9" * 60, "9" * 60 + " 1", "0 " + "1" * 9000, "0 -" + "1" * 9000, "1" * 9000 + " 1",
    ",".join("0" * 4000) + " 1",
)


class TextCase(unittest.TestCase):
    def assert_no_text(self, thing, row):
        with self.subTest(thing=repr(thing)[:200]):
            told = assert_refused(self, NoText, read, thing).row
            self.assertEqual(told, row)
            self.assertIs(told.__class__, int)

    def assert_there_and_back(self, box, text):
        with self.subTest(box=box):
            self.assertEqual(written(box), text)
            told = read(text)
            # By repr, too, since lists and truths would be shown there.
            self.assertEqual(repr(told), repr(box))
            self.assertEqual(written(told), text)


class Written(TextCase):
    def test_sign_for_sign_and_read_again(self):
        for box, text in GOOD:
            self.assert_there_and_back(box, text)

    def test_boxes_of_many_kinds_there_and_back(self):
        for box in small_boxes() + big_boxes():
            self.assert_there_and_back(box, written(box))

    def test_each_weight_near_the_bounds_and_near_0(self):
        for weight in list(range(-12, 13)) + [END, END - 1, 1 - END, -END, 10 ** 11, -10 ** 11, 99, 100, 101]:
            self.assert_there_and_back((1, (), (((0,), weight),)), "things 1\n0 " + str(weight))

    def test_a_box_somewhat_beyond_the_bounds_is_written(self):
        self.assertEqual(written((18, (17,), (((16, 17), -LONGEST),))), "things 18 may 17\n16,17 -" + "9" * 60)


class NoTexts(TextCase):
    def test_first_rows_that_are_wrong(self):
        for head in BAD_HEADS:
            for rest in ("", "\n0 1", "\n0 1\n", "\nx"):
                self.assert_no_text(head + rest, 0)
        for figure in OTHER_FIGURES:
            self.assert_no_text("things " + figure, 0)
            self.assert_no_text("things 1" + figure, 0)
            self.assert_no_text("things 9 may " + figure, 0)

    def test_rows_of_pieces_that_are_wrong(self):
        for head in ("things 3", "things 3 may 1"):
            for good in (0, 1, 5, 31):
                for bad in BAD_PIECES:
                    for rest in ([], ["0,1 4"], ["x", ""]):
                        rows = [head] + ["0,2 -7"] * good + [bad] + rest
                        self.assert_no_text("\n".join(rows), good + 1)

    def test_figures_that_are_not_0_to_9(self):
        for figure in OTHER_FIGURES:
            for row in (figure + " 1", "0," + figure + " 1", "0 " + figure, "0 1" + figure, "0 -" + figure):
                self.assert_no_text("things 16\n0 1\n" + row, 2)

    def test_an_empty_row_ahead_between_and_at_the_end(self):
        self.assert_no_text("\nthings 3", 0)
        self.assert_no_text("things 3\n", 1)
        self.assert_no_text("things 3\n\n", 1)
        self.assert_no_text("things 3\n\n0 1", 1)
        self.assert_no_text("things 3\n0 1\n", 2)
        self.assert_no_text("things 3\n0 1\n\n2 2", 2)
        self.assert_no_text(GOOD[-1][1] + "\n", 33)

    def test_rows_are_parted_by_line_feeds_alone(self):
        for sign in ("\r\n", "\r", "\x0b", "\x0c", "\x1c", "\x1d", "\x1e", "\x85", "\u2028", "\u2029", "\\n", " \n"):
            self.assert_no_text(sign.join(["things 3", "0 1"]), 0)
            self.assert_no_text("things 3\n" + sign.join(["0 1", "1 1"]), 1)

    def test_from_the_33rd_piece_on(self):
        full = "things 2 may 0,1" + "\n1 -7" * 32
        self.assertEqual(len(read(full)[2]), 32)
        for rest in ("\n1 -7", "\n1 -7\n1 -7", "\n1 -7" * 40, "\nx", "\n", "\n1 -7\nx"):
            self.assert_no_text(full + rest, 33)

    def test_the_first_wrong_row_is_told(self):
        self.assert_no_text("things 3\n0 1\n3 1\nx\n1 1", 2)
        self.assert_no_text("things 3\nx\n3 1", 1)
        self.assert_no_text("things 17\nx", 0)

    def test_what_is_no_text(self):
        for thing in odd_things() + [True, False, 0, 1, ["things 0"], ("things 0",), (0, (), ()), {"things": 0}]:
            if thing != "things 0":
                self.assert_no_text(thing, 0)

    def test_very_long_texts(self):
        for text in ("0" * 9990, "\n" * 9990, " " * 9990, "," * 9990, "things " * 1400):
            self.assert_no_text(text, 0)
        self.assert_no_text("things 3" + "\n0 1" * 2490, 33)


class AnyText(TextCase):
    def check(self, text):
        """What is read is written just so; else the rows ahead of the told one are those of a box, and not with it."""
        rows = text.split("\n")
        try:
            box = read(text)
        except NoText as refusal:
            if refusal.row > 0:
                self.assertEqual(written(read("\n".join(rows[:refusal.row]))), "\n".join(rows[:refusal.row]))
            self.assert_no_text("\n".join(rows[:refusal.row + 1]), refusal.row)
            return 0
        self.assertIs(is_box(box), True)
        self.assertEqual(written(box), text)
        return 1

    def test_texts_with_one_sign_put_in_left_out_or_changed(self):
        signs = "0129-+, \n\tmx."
        read_count = 0
        for box, text in GOOD[:9]:
            for place in range(len(text) + 1):
                read_count += self.check(text[:place] + text[place + 1:])
                for sign in signs:
                    read_count += self.check(text[:place] + sign + text[place:])
                    read_count += self.check(text[:place] + sign + text[place + 1:])
        self.assertGreater(read_count, 100)

    def test_texts_by_chance(self):
        chance = random.Random(6)
        words = ["things", "may", "0", "1", "2", "16", "17", "-1", "0,1", "1,2", "0,2", "1,0", " ", ""]
        for _ in range(3000):
            rows = [" ".join(chance.choices(words, k=chance.randint(1, 3))) for _ in range(chance.randint(1, 3))]
            self.check("\n".join(["things 3"] * chance.randint(0, 1) + rows))


class AgainTheSame(unittest.TestCase):
    def test_the_same_answer_again(self):
        for box, text in GOOD:
            self.assertEqual([written(box), written(box)], [text, text])
            self.assertEqual([read(text), read(text)], [box, box])


if __name__ == "__main__":
    unittest.main()
