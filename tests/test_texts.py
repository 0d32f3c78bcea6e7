"""Texts: points 2, 3 and 32."""

import random
import unittest

from brimyard.errors import NoText
from brimyard.plans import whole_times
from brimyard.ratios import ratio_times
from brimyard.texts import filling_text, heap_text, ratio_text, read_filling, read_heap
from tests.samples import GREATEST, no_wholes

HEAPS = [
    ("need 1", (1, ())),
    ("need 1000000000000", (GREATEST, ())),
    ("need 10 3x4", (10, ((3, 4),))),
    ("need 7 2x3 5x4 9x1", (7, ((2, 3), (5, 4), (9, 1)))),
    ("need 7 9x3 10x4", (7, ((9, 3), (10, 4)))),
    ("need 1 1x1000000000000 1000000000000x1", (1, ((1, GREATEST), (GREATEST, 1)))),
    ("need 20 1x1 2x2 3x3 4x4 5x5 6x6 7x7 8x8", (20, tuple([(size, size) for size in range(1, 9)]))),
    ("need 999999999999 999999999999x999999999999", (GREATEST - 1, ((GREATEST - 1, GREATEST - 1),))),
]

FILLINGS = [
    (".", ()),
    ("5*1", (((5,), 1),)),
    ("2+5*3 9*1", (((2, 5), 3), ((9,), 1))),
    ("1+1+1*2 1+1+2*10 1+2*1", (((1, 1, 1), 2), ((1, 1, 2), 10), ((1, 2), 1))),
    ("9*1 10*1", (((9,), 1), ((10,), 1))),
    ("1000000000000*1000000000000", (((GREATEST,), GREATEST),)),
    ("1+1000000000000*1 2*1", (((1, GREATEST), 1), ((2,), 1))),
    ("+".join(["7"] * 100) + "*4", (((7,) * 100, 4),)),
]


def no_texts():
    """Things that are no text."""
    return [thing for thing in no_wholes() if not isinstance(thing, str)] + [
        0, 1, -5, GREATEST, [], ["need", "1"], ("need", "1"), (1, ()), b"need 1", ["."], (".",), b".",
    ]


class NumberTest(unittest.TestCase):
    def test_ratios(self):
        for ratio, text in [
            ((0, 1), "0"), ((1, 1), "1"), ((-1, 1), "-1"), ((7, 2), "7/2"), ((-7, 2), "-7/2"), ((1, 10), "1/10"),
            ((100, 1), "100"), ((-100, 1), "-100"), ((10, 101), "10/101"), ((-1, 10 ** 59), "-1/1" + "0" * 59),
            ((10 ** 59, 1), "1" + "0" * 59), ((1 - 10 ** 60, 1), "-" + "9" * 60),
            ((10 ** 60 - 1, 10 ** 59), "9" * 60 + "/1" + "0" * 59),
        ]:
            with self.subTest(ratio=ratio):
                self.assertEqual(ratio_text(ratio), text)

    def test_numbers_of_many_figures(self):
        for figures in [59, 60, 61, 119, 120, 121, 1000]:
            for number in [10 ** figures, 10 ** figures - 1, 10 ** figures + 1, 123 * 10 ** figures + 456]:
                self.assertEqual(ratio_text((number, 1)), str(number))
                self.assertEqual(ratio_text((-number, 1)), str(-number))
                self.assertEqual(ratio_text((1, number)), "1/" + str(number))

    def test_what_the_program_told_whatever_its_size(self):
        # More figures than Python writes at once.
        ratio = (10 ** 50 + 7, 2)
        for again in range(7):
            ratio = ratio_times(ratio, ratio)
        text = ratio_text(ratio)
        top, stroke, bottom = text.partition("/")
        self.assertEqual(len(top), 6401)
        self.assertEqual(bottom, str(2 ** 128))
        value = 0
        for place in range(0, len(top), 50):
            piece = top[place:place + 50]
            value = value * 10 ** len(piece) + int(piece)
        self.assertEqual(value, ratio[0])


class WritingTest(unittest.TestCase):
    def test_heaps(self):
        for text, heap in HEAPS:
            with self.subTest(heap=heap):
                self.assertEqual(heap_text(heap), text)

    def test_fillings(self):
        for text, filling in FILLINGS:
            with self.subTest(filling=filling):
                self.assertEqual(filling_text(filling), text)

    def test_times_above_the_bound(self):
        times, filling = whole_times((3, ((1, GREATEST), (2, GREATEST - 1))))
        words = filling_text(filling).split(" ")
        self.assertEqual([word.split("*")[1] for word in words], [str(many) for lot, many in filling])
        self.assertEqual(filling_text((((1,), 10 ** 13),)), "1*10000000000000")


class ReadHeapTest(unittest.TestCase):
    def refused(self, thing):
        with self.subTest(thing=thing), self.assertRaises(NoText):
            read_heap(thing)

    def test_read_back(self):
        for text, heap in HEAPS:
            with self.subTest(text=text):
                self.assertEqual(read_heap(text), heap)
                self.assertIsInstance(read_heap(text)[1], tuple)

    def test_read_back_by_chance(self):
        chance = random.Random(32)
        for again in range(200):
            sizes = sorted(chance.sample(range(1, chance.choice([9, 200, GREATEST])), chance.randint(0, 8)))
            heap = (chance.randint(1, GREATEST), tuple([(size, chance.randint(1, GREATEST)) for size in sizes]))
            self.assertEqual(read_heap(heap_text(heap)), heap)

    def test_no_texts(self):
        for thing in no_texts():
            self.refused(thing)

    def test_noughts_signs_and_other_figures(self):
        for word in [
            "0", "00", "01", "010", "-1", "+1", "1.", "1.0", "1e3", "1_0", "0x1", "1000000000001", "1" + "0" * 13,
            "9" * 13, "1" * 5000, "a", "", "\u0661", "\u00b2", "\u0967", "1\n", "\t1", "1\r", "one", "1/1", "1*1",
        ]:
            self.refused("need " + word)
            self.refused("need 5 " + word + "x2")
            self.refused("need 5 2x" + word)
            self.refused("need " + word + " 2x2")

    def test_blanks(self):
        for text in [
            "", " ", "need", "need ", " need 5", "need  5", "need 5 ", "need 5  2x2", "need 5 2x2 ", "need5",
            "need 5 2 x2", "need 5 2x 2", "need\t5", "need 5\n", "need 5 2x2\n", "need 5 2x23x4",
            "need 5\t2x2", "need 5,2x2",
        ]:
            self.refused(text)

    def test_other_words(self):
        for text in [
            "5", "5 2x2", "Need 5", "NEED 5", "needs 5", "heap 5", "need need 5", "need 5 need", "need 5 2X2",
            "need 5 2*2", "need 5 2x2x2", "need 5 x2", "need 5 2x", "need 5 x", "need 5 2",
            "need 5 2x2 .", ".", "need .", "(5, ())",
        ]:
            self.refused(text)

    def test_sizes_that_do_not_rise(self):
        for text in ["need 5 3x1 2x1", "need 5 2x1 2x1", "need 5 2x1 2x2", "need 5 10x1 9x1", "need 5 1x1 3x1 2x1"]:
            self.refused(text)

    def test_nine_kinds(self):
        words = [str(size) + "x1" for size in range(1, 10)]
        self.refused(" ".join(["need 5"] + words))
        self.assertEqual(len(read_heap(" ".join(["need 5"] + words[:8]))[1]), 8)


class ReadFillingTest(unittest.TestCase):
    def refused(self, thing):
        with self.subTest(thing=thing), self.assertRaises(NoText):
            read_filling(thing)

    def test_read_back(self):
        for text, filling in FILLINGS:
            with self.subTest(text=text):
                self.assertEqual(read_filling(text), filling)
                self.assertIsInstance(read_filling(text), tuple)

    def test_read_back_by_chance(self):
        chance = random.Random(33)
        for again in range(150):
            lots = set()
            for place in range(chance.choice([0, 1, 3, 40])):
                many = chance.choice([1, 2, 5, 99, 100])
                lots.add(tuple(sorted([chance.randint(1, chance.choice([3, GREATEST])) for at in range(many)])))
            pairs = tuple([(lot, chance.randint(1, chance.choice([2, GREATEST]))) for lot in sorted(lots)])
            self.assertEqual(read_filling(filling_text(pairs)), pairs)

    def test_any_number_of_pairs(self):
        pairs = tuple([((size,), size) for size in range(1, 3001)])
        self.assertEqual(read_filling(filling_text(pairs)), pairs)

    def test_lots_of_a_hundred_and_one_more(self):
        self.assertEqual(read_filling("+".join(["3"] * 100) + "*5"), (((3,) * 100, 5),))
        self.refused("+".join(["3"] * 101) + "*5")
        self.refused("+".join(["3"] * 1000) + "*5")

    def test_no_texts(self):
        for thing in no_texts():
            self.refused(thing)

    def test_noughts_signs_and_other_figures(self):
        for word in [
            "0", "00", "01", "-1", "+1", "1.", "1e3", "1_0", "1000000000001", "9" * 13, "1" * 5000, "a", "", "\u0661",
            "\u00b2", "1\n", "\t1", "1/1", "1x1", ".",
        ]:
            self.refused(word + "*1")
            self.refused("1*" + word)
            self.refused("1+" + word + "*1")
            self.refused(word + "+3000000*1")

    def test_blanks(self):
        for text in [
            "", " ", " .", ". ", "..", ". .", "1*1 ", " 1*1", "1*1  2*1", "1 *1", "1* 1", "1 + 2*1", "1+2* 1", "1*1\n",
            "1*1\t2*1", "1*1,2*1", "1*12*1",
        ]:
            self.refused(text)

    def test_other_words(self):
        for text in [
            "1", "1+2", "*1", "1*", "*", "+*1", "1+*1", "+1*1", "1++2*1", "1*1*1", "1*1 .", ". 1*1", "need 1",
            "1x1", "()",
        ]:
            self.refused(text)

    def test_a_lot_that_is_not_sorted(self):
        for text in ["2+1*1", "1+3+2*1", "10+9*1", "1*1 3+2*1"]:
            self.refused(text)

    def test_pairs_that_do_not_rise(self):
        for text in ["2*1 1*1", "10*1 9*1", "1+2*1 1+1*1", "1+1*1 1*1", "1*1 3*1 2*1"]:
            self.refused(text)
        self.assertEqual(read_filling("1*1 1+1*1"), (((1,), 1), ((1, 1), 1)))

    def test_a_lot_twice(self):
        for text in ["1*1 1*1", "1*1 1*2", "1+2*3 1+2*4", "1*2 1*1"]:
            self.refused(text)


if __name__ == "__main__":
    unittest.main()
