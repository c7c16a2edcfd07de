"""The desk: point 31, and 2 and 4 of it."""

import random
import unittest

from eachonce.bars import least_bars
from eachonce.coverings import covering_at, many
from eachonce.desk import Desk
from eachonce.errors import Held, NoCovering, NoDeed, NoPiece, NoRow, NoThing, NoWeight, OnceError, TooMany
from eachonce.lightest import lightest
from eachonce.texts import read, written
from samples import assert_refused, big_boxes, odd_things, small_boxes

MOST = 10 ** 12
QUESTIONS = ("box", "many", "lightest", "bars", "at 0", "at 1", "at 2", "at 5", "at 100")
# A right row of each form, at a desk that was told START.
START = ("must", "may", "must", "piece 0,1 5", "piece 2 -7", "piece 0 0")
RIGHT_ROWS = ("must", "may", "piece 0,1 5", "piece 2 -7", "piece 0 0", "turn 0", "drop thing 2", "drop piece 1", "undo",
              "box", "many", "at 0", "lightest", "bars")


def desk_told(rows):
    desk = Desk()
    for row in rows:
        desk.say(row)
    return desk


def rows_of(box):
    rows = ["may" if thing in box[1] else "must" for thing in range(box[0])]
    return rows + [f"piece {','.join(map(str, things))} {weight}" for things, weight in box[2]]


def answer(desk, row):
    """What the desk answers, or the refusal's class."""
    try:
        return desk.say(row)
    except OnceError as refusal:
        return refusal.__class__


def answers(desk):
    return [answer(desk, row) for row in QUESTIONS]


def told_of_covering(covering):
    return " ".join(map(str, covering)) or "empty"


def answers_by_words(box):
    best = lightest(box)
    told = [written(box), str(many(box)), "none" if best is None else f"{best[0]} : {told_of_covering(best[1])}"]
    if box[0] > 9:
        told.append(TooMany)
    else:
        told.append(" ".join([",".join(map(str, bar)) for bar in least_bars(box)]) or "none")
    for number in (0, 1, 2, 5, 100):
        told.append(told_of_covering(covering_at(box, number)) if number < many(box) else NoCovering)
    return told


class DeskCase(unittest.TestCase):
    def assert_said(self, desk, row, told):
        with self.subTest(row=row):
            answered = desk.say(row)
            self.assertEqual(answered, told)
            self.assertIs(answered.__class__, str)

    def assert_refused_and_unchanged(self, desk, kind, row):
        with self.subTest(row=repr(row)[:200]):
            before = answers(desk)
            kept = repr(row)
            assert_refused(self, kind, desk.say, row)
            self.assertEqual(answers(desk), before)
            self.assertEqual(repr(row), kept)


class Rows(DeskCase):
    def test_at_first(self):
        desk = Desk()
        for row, told in (("box", "things 0"), ("many", "1"), ("at 0", "empty"), ("lightest", "0 : empty"),
                          ("bars", "none")):
            self.assert_said(desk, row, told)

    def test_each_row_and_its_answer(self):
        desk = Desk()
        for row, told in (
            ("must", "0"), ("lightest", "none"), ("bars", "0"), ("many", "0"), ("may", "1"), ("must", "2"),
            ("bars", "0 2"), ("piece 0,1 5", "0"), ("piece 2 -7", "1"), ("box", "things 3 may 1\n0,1 5\n2 -7"),
            ("many", "1"), ("at 0", "0 1"), ("lightest", "-2 : 0 1"), ("bars", "none"), ("piece 0 0", "2"),
            ("many", "2"), ("at 0", "0 1"), ("at 1", "1 2"), ("lightest", "-7 : 1 2"), ("turn 0", "ok"),
            ("box", "things 3 may 0,1\n0,1 5\n2 -7\n0 0"), ("many", "3"), ("at 0", "1"), ("at 1", "0 1"),
            ("at 2", "1 2"), ("lightest", "-7 : 1"), ("turn 2", "ok"), ("many", "6"), ("at 0", "empty"), ("at 1", "1"),
            ("drop piece 1", "ok"), ("box", "things 3 may 0,1,2\n0,1 5\n0 0"), ("many", "3"), ("at 0", "empty"),
            ("at 1", "0"), ("at 2", "1"), ("lightest", "0 : empty"), ("drop thing 2", "ok"),
            ("box", "things 2 may 0,1\n0,1 5\n0 0"), ("undo", "ok"), ("box", "things 3 may 0,1,2\n0,1 5\n0 0"),
            ("undo", "ok"), ("undo", "ok"), ("box", "things 3 may 0,1\n0,1 5\n2 -7\n0 0"), ("undo", "ok"),
            ("undo", "ok"), ("undo", "ok"), ("undo", "ok"), ("undo", "ok"), ("undo", "ok"), ("box", "things 1"),
            ("undo", "ok"), ("box", "things 0"),
        ):
            self.assert_said(desk, row, told)
        assert_refused(self, NoDeed, desk.say, "undo")

    def test_bars_of_several_things(self):
        desk = desk_told(["must"] * 4 + ["piece 0,1 1", "piece 1,2 1"])
        self.assert_said(desk, "bars", "3 0,1,2")
        self.assert_said(desk, "lightest", "none")
        desk = desk_told(["must"] * 3 + ["piece 0,1 1", "piece 1,2 1", "piece 0,2 1"])
        self.assert_said(desk, "bars", "0,1,2")

    def test_numbers_of_two_figures(self):
        desk = desk_told(["may"] * 15)
        self.assert_said(desk, "must", "15")
        for number in range(31):
            self.assert_said(desk, f"piece {number % 16} {-number}", str(number))
        self.assert_said(desk, f"piece 10,14,15 {MOST}", "31")
        self.assert_said(desk, "at 0", "15")
        self.assert_said(desk, "turn 10", "ok")
        self.assert_said(desk, "drop piece 30", "ok")
        self.assert_said(desk, "drop piece 26", "ok")
        self.assert_said(desk, "drop piece 10", "ok")
        self.assert_said(desk, "at 0", "28")
        self.assert_said(desk, "undo", "ok")
        self.assert_said(desk, "at 0", "10 15")
        best = lightest(read(desk.say("box")))
        self.assert_said(desk, "lightest", f"{best[0]} : {' '.join(map(str, best[1]))}")
        self.assertGreater(len(best[1]), 10)

    def test_the_greatest_weights(self):
        desk = Desk()
        desk.say("must")
        for number, weight in enumerate((MOST, -MOST, 0, 1, -1, MOST - 1)):
            self.assert_said(desk, f"piece 0 {weight}", str(number))
        self.assert_said(desk, "lightest", "-1000000000000 : 1")

    def test_boxes_put_in_row_by_row(self):
        for box in small_boxes() + big_boxes():
            desk = desk_told(rows_of(box))
            for _ in range(2):
                self.assertEqual(answers(desk), answers_by_words(box))

    def test_all_coverings_by_number(self):
        for box in small_boxes():
            desk = desk_told(rows_of(box))
            count = int(desk.say("many"))
            told = [desk.say(f"at {number}") for number in range(min(count, 40))]
            self.assertEqual(told, [told_of_covering(covering_at(box, number)) for number in range(min(count, 40))])
            assert_refused(self, NoCovering, desk.say, f"at {count}")

    def test_two_desks_have_nothing_in_common(self):
        one, other = Desk(), Desk()
        one.say("must")
        self.assert_said(other, "box", "things 0")
        assert_refused(self, NoDeed, other.say, "undo")
        self.assert_said(other, "may", "0")
        self.assert_said(one, "box", "things 1")


class Refused(DeskCase):
    def test_as_the_stages_tell(self):
        desk = desk_told(START)
        for row, kind in (
            ("piece 3 5", NoThing), ("piece 1,0 5", NoThing), ("piece 0,0 5", NoThing), ("piece 0,1,3 5", NoThing),
            ("piece 9999999999999 5", NoThing), ("piece 0 1000000000001", NoWeight),
            ("piece 0 -1000000000001", NoWeight),
            ("piece 0 9999999999999", NoWeight), ("piece 0 -9999999999999", NoWeight),
            ("piece 3 9999999999999", NoThing), ("turn 3", NoThing), ("turn 9999999999999", NoThing),
            ("drop thing 3", NoThing), ("drop thing 9999999999999", NoThing), ("drop thing 0", Held),
            ("drop thing 1", Held), ("drop thing 2", Held), ("drop piece 3", NoPiece),
            ("drop piece 9999999999999", NoPiece), ("at 2", NoCovering), ("at 9999999999999", NoCovering),
        ):
            self.assert_refused_and_unchanged(desk, kind, row)
        # The deeds that can be undone are as they were.
        for _ in START:
            self.assert_said(desk, "undo", "ok")
        self.assert_refused_and_unchanged(desk, NoDeed, "undo")

    def test_too_many(self):
        desk = desk_told(["may"] * 16 + ["piece 0 1"] * 32)
        for row in ("must", "may", "piece 0 1", "piece 16 1", "piece 1,0 1", "piece 0 1000000000001", "bars"):
            self.assert_refused_and_unchanged(desk, TooMany, row)
        desk = desk_told(["must"] * 9)
        self.assert_said(desk, "bars", "0 1 2 3 4 5 6 7 8")
        desk.say("may")
        self.assert_refused_and_unchanged(desk, TooMany, "bars")

    def test_no_covering_at_all(self):
        desk = desk_told(["must"])
        self.assert_refused_and_unchanged(desk, NoCovering, "at 0")

    def test_blanks_and_other_signs(self):
        desk = desk_told(START)
        for row in RIGHT_ROWS:
            wrong = [" " + row, row + " ", row + "\n", "\n" + row, row + "\t", row + "\r", row + ".", row + ",",
                     row + ";", row + " 0", row + " more", "so " + row, row.upper(), row.capitalize(), row + "\0",
                     row + "\u00a0", "\ufeff" + row, row + row, row + "\n" + row, row + "#", row[:-1] + "\u0301",
                     "'" + row + "'", row + "()", "-" + row, row + "\x85", row + "\u2028", row + "\ud800"]
            if " " in row:
                wrong += [row.replace(" ", gap) for gap in ("  ", "\t", "\n", "", "_", "\u00a0", ",", " \n", "\u3000")]
                wrong += [row.replace(" ", "  ", 1), row.rpartition(" ")[0], row.rpartition(" ")[0] + " "]
            for one in wrong:
                if one not in RIGHT_ROWS:
                    self.assert_refused_and_unchanged(desk, NoRow, one)

    def test_no_such_words(self):
        desk = desk_told(START)
        for row in ("", " ", "\n", "0", "-", ",", "thing", "things", "things 3", "piece", "pieces", "put", "must 0",
                    "may 0", "turn", "turn thing 0", "drop", "drop 0", "drop thing", "drop piece", "drop box 0",
                    "drop things 0", "thing drop 0", "dropthing 0", "undo 1", "box 0", "many 0", "at", "first",
                    "next", "lightest 0", "bars 0", "bar", "mends", "quit", "ok", "none", "empty", "at 0 0",
                    "turn 0 0", "turn 0,1", "drop thing 0,1", "drop piece 0,1", "at 0,1", "drop thing 0 0",
                    "piece 0", "piece 5", "piece 0,1", "piece 0 1 5", "piece 0, 1 5", "piece 0 ,1 5", "piece 0,1  5",
                    "piece 0,1 5 5", "piece  5", "piece ,0 5", "piece 0, 5", "piece 0,,1 5", "piece , 5", "piece 0;1 5",
                    "piece 0.1 5", "piece 0-1 5", "piece (0,1) 5", "piece 0 5,", "piece 0 5,6", "piece 0 ,5",
                    "piece 0 5.0", "piece 0 5e3", "piece 0 five", "piece zero 5", "piece x 5", "piece 0 0x5",
                    "piece 0 1_0", "piece 1_0 5", "turn 1_0", "turn x", "at x", "Must", "MAY", "Box", "aT 0",
                    "turn 0\n", "box\nbox", "must may"):
            self.assert_refused_and_unchanged(desk, NoRow, row)

    def test_numbers_that_are_not_so_written(self):
        desk = desk_told(START)
        never = ("00", "01", "-0", "-00", "-01", "+0", "+1", "--1", "-", "+", "", "1-", "1 ", "0.0", "1e0", "0x1",
                 "1_0", "12345678901234", "-12345678901234", "00000000000000", "10000000000000", "-10000000000000",
                 "9" * 60, "9" * 5000, "-" + "9" * 5000, "\u0661", "\u0967", "\uff11", "\u00b2", "\u2460", "\u22121",
                 "1\u0661", "1\n", "1\t", "'1'", "one", "True", "None", "(1)", "- 1", "1,", ",1", "1.", ".1", "1/1")
        for number in never:
            for row in (f"turn {number}", f"drop thing {number}", f"drop piece {number}", f"at {number}",
                        f"piece {number} 5", f"piece 0,{number} 5", f"piece {number},2 5", f"piece 0 {number}"):
                self.assert_refused_and_unchanged(desk, NoRow, row)
        # Below 0 only a weight is such a number.
        for number in ("-1", "-2", "-1000000000000", "-9999999999999"):
            for row in (f"turn {number}", f"drop thing {number}", f"drop piece {number}", f"at {number}",
                        f"piece {number} 5", f"piece 0,{number} 5", f"piece {number},2 5"):
                self.assert_refused_and_unchanged(desk, NoRow, row)

    def test_no_such_row_goes_ahead_of_all_else(self):
        full = desk_told(["may"] * 16 + ["piece 0 1"] * 32)
        for row in ("must ", "piece 0 01", "piece 16 x", "piece 00 1", "piece -1 1", "may 1", "bars 0"):
            self.assert_refused_and_unchanged(full, NoRow, row)
        self.assert_refused_and_unchanged(Desk(), NoRow, "undo ")

    def test_what_is_no_text(self):
        desk = desk_told(START)
        for thing in odd_things() + [True, False, 0, 1, ["must"], ("must",), {"must": "must"}, ["turn", 0], ("at", 0),
                                     (("must",),), [["box"]], list("must")]:
            self.assert_refused_and_unchanged(desk, NoRow, thing)


def drawn_row(chance, box):
    name = chance.choice(("must", "may", "piece", "piece", "piece", "turn", "drop thing", "drop piece", "undo"))
    if name == "piece":
        things = sorted(chance.sample(range(max(1, box[0])), min(max(1, box[0]), chance.choice((1, 1, 2, 2, 3)))))
        return f"piece {','.join(map(str, things))} {chance.randint(-5, 5)}"
    if name in ("turn", "drop thing"):
        return f"{name} {chance.randint(0, box[0])}"
    return f"{name} {chance.randint(0, len(box[2]))}" if name == "drop piece" else name


class Drawn(DeskCase):
    def test_a_second_desk_answers_as_the_first(self):
        for seed in range(12):
            chance = random.Random(seed)
            desk = Desk()
            for turn in range(50):
                answer(desk, drawn_row(chance, read(desk.say("box"))))
                box = read(desk.say("box"))
                if turn % 5 == 0:
                    self.assertEqual(answers(desk), answers_by_words(box))
                    self.assertEqual(answers(desk_told(rows_of(box))), answers(desk))

    def test_all_undone(self):
        chance = random.Random(31)
        desk = Desk()
        texts = []
        for _ in range(80):
            row = drawn_row(chance, read(desk.say("box")))
            before = desk.say("box")
            if answer(desk, row).__class__ is str:
                if row == "undo":
                    self.assertEqual(desk.say("box"), texts.pop())
                else:
                    texts.append(before)
            else:
                self.assertEqual(desk.say("box"), before)
        while texts:
            self.assert_said(desk, "undo", "ok")
            self.assert_said(desk, "box", texts.pop())
        assert_refused(self, NoDeed, desk.say, "undo")


if __name__ == "__main__":
    unittest.main()
