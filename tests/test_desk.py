"""The desk: points 2, 33 and 34."""

import random
import unittest

from brimyard.ahead import made_ahead
from brimyard.changes import further_size, needed_sizes
from brimyard.desk import Desk
from brimyard.errors import BrimError, NoBack, NoLot, NoRow, TooFew, TooMany
from brimyard.heaps import total_of
from brimyard.mosts import most_of
from brimyard.shares import shares_of
from brimyard.stair import full_by
from brimyard.steps import best_steps
from brimyard.texts import filling_text, heap_text, ratio_text
from tests.samples import GREATEST

QUESTIONS = ["show", "total", "steps", "sum", "most", "ahead", "needed", "further"]


def desk_with(rows):
    desk = Desk()
    for row in rows:
        desk.say(row)
    return desk


def answers_of(desk):
    """All answers, a refusal by its name."""
    told = []
    for row in QUESTIONS + ["stair " + str(number) for number in range(1, 13)]:
        try:
            told.append(desk.say(row))
        except BrimError as error:
            told.append(type(error).__name__)
    return told


class DeskTest(unittest.TestCase):
    def said(self, desk, row, answer):
        told = desk.say(row)
        self.assertIsInstance(told, str)
        self.assertEqual((row, told), (row, answer))

    def refused(self, desk, row, error):
        with self.subTest(row=row):
            with self.assertRaises(error) as caught:
                desk.say(row)
            self.assertIs(type(caught.exception), error)


class QuestionTest(DeskTest):
    def test_a_new_desk(self):
        for row, answer in [
            ("show", "need 1"), ("total", "0"), ("steps", "0 1"), ("sum", "0"), ("most", "0"), ("ahead", "."),
            ("needed", "."), ("further", "1"),
        ]:
            self.said(Desk(), row, answer)
        self.refused(Desk(), "stair 1", TooFew)
        self.refused(Desk(), "stair 12", TooFew)
        self.refused(Desk(), "back", NoBack)
        self.refused(Desk(), "take 1 1", NoLot)

    def test_written_out(self):
        desk = desk_with(["need 6 2x3 5x2"])
        for row, answer in [
            ("show", "need 6 2x3 5x2"), ("total", "16"), ("steps", "2 6"), ("sum", "7/3"), ("most", "2"),
            ("ahead", "2+5*2"), ("needed", "5"), ("further", "4"),
            ("stair 1", "16"), ("stair 2", "7"), ("stair 3", "5"), ("stair 4", "2"), ("stair 5", "2"),
        ]:
            self.said(desk, row, answer)
        desk = desk_with(["need 5 2x1 3x1"])
        for row, answer in [("needed", "2 3"), ("sum", "1"), ("further", "5"), ("ahead", "2+3*1")]:
            self.said(desk, row, answer)

    def test_as_the_functions_tell(self):
        chance = random.Random(33)
        for again in range(60):
            sizes = sorted(chance.sample(range(1, 14), chance.randint(0, 4)))
            heap = (chance.randint(1, 20), tuple([(size, chance.randint(1, 3)) for size in sizes]))
            desk = desk_with([heap_text(heap)])
            self.said(desk, "show", heap_text(heap))
            self.said(desk, "total", str(total_of(heap)))
            bound, k = best_steps(heap)
            self.said(desk, "steps", str(bound) + " " + str(k))
            self.said(desk, "sum", ratio_text(shares_of(heap)[0]))
            self.said(desk, "most", str(most_of(heap)[0]))
            self.said(desk, "ahead", filling_text(made_ahead(heap)))
            self.said(desk, "needed", " ".join([str(size) for size in needed_sizes(heap)]) or ".")
            self.said(desk, "further", str(further_size(heap)[0]))
            for number in range(1, sum([many for size, many in heap[1]]) + 1):
                self.said(desk, "stair " + str(number), str(full_by(heap, number)[0]))

    def test_great_numbers(self):
        desk = desk_with(["need 1000000000000 999999999999x1000000000000 1000000000000x1000000000000"])
        self.said(desk, "total", str((2 * GREATEST - 1) * GREATEST))
        self.said(desk, "steps", "2000000000000 1")
        self.said(desk, "sum", "1500000000000")
        self.said(desk, "ahead", "999999999999+999999999999*500000000000 1000000000000*1000000000000")

    def test_refused_as_the_functions_refuse(self):
        desk = desk_with(["need 70 1x70"])
        self.refused(desk, "sum", TooMany)
        self.refused(desk, "most", TooMany)
        self.refused(desk, "needed", TooMany)
        self.refused(desk, "further", TooMany)
        self.refused(desk, "stair 1", TooMany)
        self.refused(desk, "stair 12", TooMany)
        self.said(desk, "ahead", "+".join(["1"] * 70) + "*1")
        self.said(desk, "steps", "1 36")
        desk.say("need 101 1x101")
        self.refused(desk, "ahead", TooMany)
        self.said(desk, "total", "101")
        desk.say("need 1 1x13")
        self.refused(desk, "stair 12", TooMany)
        desk.say("need 1 1x12")
        self.said(desk, "stair 12", "1")
        desk.say("need 1 1x11")
        self.refused(desk, "stair 12", TooFew)
        self.said(desk, "stair 11", "1")
        desk.say("need 1 1000000000000x1")
        self.refused(desk, "stair 1", TooMany)
        self.refused(desk, "stair 2", TooMany)
        self.said(desk, "show", "need 1 1000000000000x1")

    def test_questions_change_nothing(self):
        desk = desk_with(["need 6 2x3 5x2", "put 3 1"])
        before = answers_of(desk)
        self.assertEqual(answers_of(desk), before)
        self.said(desk, "back", "ok")
        self.said(desk, "show", "need 6 2x3 5x2")
        self.said(desk, "back", "ok")
        self.refused(desk, "back", NoBack)


class DeedTest(DeskTest):
    def test_one_by_one(self):
        desk = Desk()
        for row, shown in [
            ("put 5 3", "need 1 5x3"), ("put 2 4", "need 1 2x4 5x3"), ("put 5 1", "need 1 2x4 5x4"),
            ("take 5 1", "need 1 2x4 5x3"), ("take 2 4", "need 1 5x3"), ("need 9", "need 9"), ("put 4 1", "need 9 4x1"),
            ("need 8 1x2 3x4", "need 8 1x2 3x4"), ("take 3 3", "need 8 1x2 3x1"), ("back", "need 8 1x2 3x4"),
            ("back", "need 9 4x1"), ("put 6 6", "need 9 4x1 6x6"), ("back", "need 9 4x1"), ("back", "need 9"),
            ("back", "need 1 5x3"), ("take 5 3", "need 1"), ("back", "need 1 5x3"), ("back", "need 1 2x4 5x3"),
            ("back", "need 1 2x4 5x4"), ("back", "need 1 2x4 5x3"), ("back", "need 1 5x3"), ("back", "need 1"),
        ]:
            self.said(desk, row, "ok")
            self.said(desk, "show", shown)
        self.refused(desk, "back", NoBack)
        self.said(desk, "show", "need 1")

    def test_a_deed_that_changes_nothing_counts(self):
        desk = desk_with(["put 5 3", "need 1 5x3", "need 1 5x3"])
        self.said(desk, "back", "ok")
        self.said(desk, "show", "need 1 5x3")
        self.said(desk, "back", "ok")
        self.said(desk, "show", "need 1 5x3")
        self.said(desk, "back", "ok")
        self.said(desk, "show", "need 1")
        self.refused(desk, "back", NoBack)
        desk = desk_with(["need 1"])
        self.said(desk, "back", "ok")
        self.refused(desk, "back", NoBack)

    def test_back_behind_a_refused_row(self):
        desk = desk_with(["put 5 3"])
        self.refused(desk, "take 5 4", NoLot)
        self.refused(desk, "put 5 1000000000000", TooMany)
        self.refused(desk, "put 5", NoRow)
        self.refused(desk, "stair 4", TooFew)
        self.said(desk, "show", "need 1 5x3")
        self.said(desk, "back", "ok")
        self.said(desk, "show", "need 1")
        self.refused(desk, "back", NoBack)
        self.said(desk, "put 1 1", "ok")
        self.said(desk, "back", "ok")
        self.refused(desk, "back", NoBack)

    def test_put_with_too_many(self):
        desk = desk_with(["need 5 " + " ".join([str(size) + "x1" for size in range(1, 9)])])
        before = desk.say("show")
        self.refused(desk, "put 9 1", TooMany)
        self.refused(desk, "put 1000000000000 1000000000000", TooMany)
        self.refused(desk, "put 8 1000000000000", TooMany)
        self.said(desk, "show", before)
        self.said(desk, "put 8 999999999999", "ok")
        self.refused(desk, "put 8 1", TooMany)
        self.said(desk, "put 7 1", "ok")
        self.said(desk, "take 8 1000000000000", "ok")
        self.said(desk, "put 9 1", "ok")
        self.said(desk, "show", "need 5 1x1 2x1 3x1 4x1 5x1 6x1 7x2 9x1")

    def test_take_with_no_lot(self):
        desk = desk_with(["need 5 2x3 7x1"])
        for row in ["take 2 4", "take 3 1", "take 7 2", "take 2 1000000000000", "take 1000000000000 1"]:
            self.refused(desk, row, NoLot)
        self.said(desk, "show", "need 5 2x3 7x1")
        self.said(desk, "take 2 3", "ok")
        self.said(desk, "show", "need 5 7x1")
        self.said(desk, "take 7 1", "ok")
        self.said(desk, "show", "need 5")
        self.refused(desk, "take 7 1", NoLot)
        # More than a hundred at once, too.
        desk.say("need 5 2x1000000000000")
        self.said(desk, "take 2 999999999999", "ok")
        self.said(desk, "show", "need 5 2x1")

    def test_many_deeds(self):
        desk = Desk()
        for number in range(1, 1500):
            desk.say("put 3 1")
        for number in range(1499, 0, -1):
            self.said(desk, "show", "need 1 3x" + str(number))
            desk.say("back")
        self.refused(desk, "back", NoBack)

    def test_two_desks_have_nothing_in_common(self):
        one = Desk()
        other = Desk()
        one.say("put 5 3")
        self.said(other, "show", "need 1")
        self.refused(other, "back", NoBack)
        other.say("need 7 2x2")
        self.said(one, "show", "need 1 5x3")
        one.say("back")
        self.refused(one, "back", NoBack)
        self.said(other, "show", "need 7 2x2")
        self.said(other, "back", "ok")

    def test_whatever_way_led_there(self):
        ways = [
            ["need 6 2x3 5x2"],
            ["need 6", "put 5 2", "put 2 3"],
            ["need 6 2x5 3x1 5x2", "take 2 2", "take 3 1"],
            ["put 9 9", "need 6 2x3 5x2", "put 1 1", "back"],
            ["need 6 2x3", "need 6", "back", "put 5 1", "put 5 1"],
        ]
        told = [answers_of(desk_with(rows)) for rows in ways]
        for answers in told:
            self.assertEqual(answers, told[0])


class NoRowTest(DeskTest):
    WORDS = [
        "", " ", "x", "shown", "Show", "SHOW", "need", "put", "take", "stair", "put 5", "take 5", "put 5 3 1",
        "take 5 3 1",
        "show 1", "total 1", "steps 1", "sum 1", "most 1", "ahead 1", "needed 1", "further 1", "back 1", "back back",
        "stair 1 1", "need need 5", "5", "5 3", "put x 1", "put 5x3", "take 5x3", "needs 5", "show show", "quit",
        "need 5 3", "need 5 3x", "need 5 3x1 2x1", "need 5 2x1 2x1", "need 5 2x0", "need 0", "need 05", "need -1",
        "need 1000000000001", "need 5 1x1000000000001", "need 5 1000000000001x1", "ok", ".", "most.", "put,5,3",
        "need 5 1x1 2x1 3x1 4x1 5x1 6x1 7x1 8x1 9x1", "\u0661", "put \u0661 1", "x" * 2000, "put " + "1" * 1990 + " 1",
    ]

    def test_none_of_the_rows(self):
        desk = desk_with(["put 5 3"])
        for row in self.WORDS:
            self.refused(desk, row, NoRow)
        self.said(desk, "show", "need 1 5x3")
        self.said(desk, "back", "ok")
        self.refused(desk, "back", NoBack)

    def test_blanks(self):
        desk = desk_with(["put 5 3"])
        rows = QUESTIONS + ["back", "put 5 3", "take 5 3", "stair 1", "need 5 2x3", "need 5"]
        for row in rows:
            for other in [row + " ", " " + row, row + "\n", "\t" + row, row + "  ", row.upper(), row + row]:
                self.refused(desk, other, NoRow)
            if " " in row:
                self.refused(desk, row.replace(" ", "  "), NoRow)
                self.refused(desk, row.replace(" ", "\t"), NoRow)
                self.refused(desk, row.replace(" ", ""), NoRow)
        self.said(desk, "show", "need 1 5x3")

    def test_numbers_not_so_written(self):
        desk = desk_with(["put 5 3"])
        words = ["0", "00", "01", "-1", "+1", "1.0", "1e3", "1_0", "1000000000001", "9" * 13, "a", "\u0661", "\u00b2"]
        rows = ["put {} 1", "put 1 {}", "take {} 1", "take 5 {}", "stair {}", "need {}", "need 5 {}x1", "need 5 1x{}"]
        for word in words:
            for row in rows:
                self.refused(desk, row.format(word), NoRow)

    def test_stair_from_one_to_twelve(self):
        desk = desk_with(["need 1 1x12"])
        for number in range(1, 13):
            self.said(desk, "stair " + str(number), str(12 // number))
        for number in [0, 13, 14, 100, GREATEST, GREATEST + 1]:
            self.refused(desk, "stair " + str(number), NoRow)

    def test_ahead_of_all_other_refusals(self):
        # No deed is left to take back, and the row isn't just so written.
        for row in ["back ", " back", "back 1", "Back", "back\n"]:
            self.refused(Desk(), row, NoRow)
        # There are more than twelve things.
        desk = desk_with(["need 70 1x70"])
        for row in ["stair 13", "stair 0", "stair", "stair 1 ", "most ", "sum 1"]:
            self.refused(desk, row, NoRow)
        self.refused(desk, "stair 12", TooMany)
        # The heap hasn't so many things, or would have too many.
        self.refused(desk, "take 1 1000000000001", NoRow)
        self.refused(desk, "take 2 0", NoRow)
        self.refused(desk, "put 1 1000000000001", NoRow)

    def test_the_greatest_numbers(self):
        desk = Desk()
        self.said(desk, "put 1000000000000 1000000000000", "ok")
        self.said(desk, "show", "need 1 1000000000000x1000000000000")
        self.said(desk, "take 1000000000000 1000000000000", "ok")
        self.said(desk, "show", "need 1")
        self.said(desk, "need 1000000000000", "ok")
        self.said(desk, "further", "1000000000000")


if __name__ == "__main__":
    unittest.main()
