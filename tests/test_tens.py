"""Points 31 and 32: texts read."""

import unittest
from fractions import Fraction

from helper import (
    GREATEST, LEAST, SHAPES, SIGNS, SMALL_SHAPES, WAYS, ReadTests, all_bits, double, doubles,
    edge_numbers, end_row, exact_of, last_size, measure, plain_figures, powered_figures, signed_row,
    undoubled, written,
)
from nearfold.errors import FoldError, NoParts, NoText
from nearfold.rounding import rounded
from nearfold.tens import read

FIGURES = [
    "0", "00.00", "0e9999", "0.000e-9999", "1", "01", "1.0", "10e-1", "0.1", "0.5", "0.25", "2", "3",
    "4", "5", "7", "8", "15.5", "16", "100", "1e1", "1e2", "12.50", "0012.50", "3.14159", "1e-5",
    "1e-0005", "1.5e3", "1.5e-3", "65504", "65519", "65520", "1e22", "1e23", "9007199254740993",
    "123456789012345678901234567890", "1e308", "1.7976931348623157e308", "1.7976931348623159e308",
    "4.9e-324", "2.4e-324", "1e-323", "1e9999", "1e-9999", "9.99999e9999", "0.00001e-9999",
    "123456789" * 30, "0." + "0" * 200 + "123456789", "9" * 290, "0." + "9" * 290,
    "1" + "0" * 250 + "e-9999", "0." + "0" * 250 + "1e9999", "9" * 280 + "e9999", "9" * 280 + "e-0300",
    "0." + "0" * 280 + "1e0281", "1" + "0" * 280 + "e-0280",
]


class TestFigures(ReadTests, unittest.TestCase):
    def check(self, shape, text, exact):
        self.check_read(read, shape, text, exact)

    def test_by_the_exact_fraction(self):
        for shape in SHAPES:
            for text in FIGURES:
                self.check(shape, text, Fraction(text))

    def test_as_the_measure_rounded(self):
        for text in FIGURES:
            exact = Fraction(text)
            for way in WAYS:
                for sign in SIGNS:
                    wanted = rounded((8, 23), sign, exact.numerator, exact.denominator, way)
                    self.assertEqual(read((8, 23), "-" * sign + text, way), wanted)

    def test_by_hand(self):
        # The shape (2, 2): the unit is 1/4, the end is 12; the greatest number is 3.5.
        told = [
            ("1", "even", 4, 0), ("-1", "even", 20, 0), ("0.25", "even", 1, 0), ("25e-2", "in", 1, 0),
            ("0.1", "even", 0, 3), ("0.125", "even", 0, 3), ("0.125", "off", 1, 3),
            ("0.1250001", "even", 1, 3), ("0.1", "up", 1, 3), ("-0.1", "up", 16, 3),
            ("-0.1", "down", 17, 3), ("0.9", "even", 4, 3), ("1.1", "even", 4, 1),
            ("3.5", "down", 11, 0), ("3.75", "even", 12, 5), ("3.7499", "even", 11, 1),
            ("3.75", "in", 11, 1), ("4", "in", 11, 5), ("4e0", "up", 12, 5), ("-4", "up", 27, 5),
            ("-4", "down", 28, 5), ("1e9999", "even", 12, 5), ("1e9999", "in", 11, 5),
            ("1e-9999", "up", 1, 3), ("-1e-9999", "even", 16, 3), ("-0", "even", 16, 0),
            ("0", "down", 0, 0), ("-0.00e5", "up", 16, 0),
        ]
        for text, way, bits, flags in told:
            self.assertEqual(read(LEAST, text, way), (bits, flags), (text, way))

    def test_all_noughts(self):
        for shape in SHAPES:
            for text in ["0", "000", "0.0", "00.000", "0e0", "0e9999", "0e-9999", "0.00e-12", "0" * 280]:
                for way in WAYS:
                    self.assertEqual(read(shape, text, way), (0, 0))
                    self.assertEqual(read(shape, "-" + text, way), (signed_row(shape, 1, 0), 0))

    def test_numbers_are_read_as_they_are(self):
        for shape in SMALL_SHAPES:
            for row in range(last_size(shape)):
                exact = exact_of(shape, row)
                for text in (plain_figures(exact), powered_figures(exact)):
                    for sign in SIGNS:
                        for way in WAYS:
                            wanted = (signed_row(shape, sign, row), 0)
                            self.assertEqual(read(shape, "-" * sign + text, way), wanted)

    def test_middles_and_beside_them(self):
        for shape in [(2, 2), (3, 4), (5, 10), (8, 23)]:
            sizes = {row % 2 ** sum(shape) for row in edge_numbers(shape)}
            for size in sorted(sizes):
                middle = (measure(shape, size) + measure(shape, size + 1)) / 2
                text = plain_figures(middle)
                text += "" if "." in text else ".0"
                self.check(shape, text, middle)
                self.check(shape, text + "0" * 9, middle)
                self.check(shape, text + "0" * 40 + "1", Fraction(text + "0" * 40 + "1"))
                less = Fraction(text) - Fraction(1, 10 ** (len(text) + 5))
                whole, places = str(less * 10 ** (len(text) + 5)), len(text) + 5
                self.check(shape, "{}e-{}".format(whole, places), less)

    def test_middles_of_the_greatest_shape(self):
        one = 1023 * 2 ** 60
        for size in [one, one + 1, one + 2 ** 60 - 1, one + 100 * 2 ** 60 + 1, one + 500 * 2 ** 60 + 3]:
            middle = (measure(GREATEST, size) + measure(GREATEST, size + 1)) / 2
            text = plain_figures(middle)
            text += "" if "." in text else ".0"
            self.assertLess(len(text), 300)
            self.check(GREATEST, text, middle)
            self.check(GREATEST, text + "00001", Fraction(text + "00001"))
            even = size + size % 2
            self.assertEqual(read(GREATEST, text), (even, 1))
            self.assertEqual(read(GREATEST, text, "off"), (size + 1, 1))
            self.assertEqual(read(GREATEST, text + "00001"), (size + 1, 1))

    def test_powers_far_out_at_either_side(self):
        for shape in SHAPES:
            end, last = last_size(shape), last_size(shape) - 1
            sign = 2 ** sum(shape)
            for text in ["1e9999", "9" * 290 + "e9999", "1" * 200 + "." + "1" * 80 + "e5000"]:
                self.assertEqual(read(shape, text), (end, 5))
                self.assertEqual(read(shape, text, "in"), (last, 5))
                self.assertEqual(read(shape, "-" + text, "up"), (sign + last, 5))
                self.assertEqual(read(shape, "-" + text, "down"), (sign + end, 5))
            for text in ["1e-9999", "9" * 290 + "e-9999", "0." + "0" * 280 + "1e-2000"]:
                self.assertEqual(read(shape, text), (0, 3))
                self.assertEqual(read(shape, text, "off"), (0, 3))
                self.assertEqual(read(shape, text, "up"), (1, 3))
                self.assertEqual(read(shape, "-" + text, "up"), (sign, 3))
                self.assertEqual(read(shape, "-" + text, "down"), (sign + 1, 3))

    def test_figures_and_powers_that_cancel(self):
        for shape in SHAPES:
            one = read(shape, "1")
            self.assertEqual(one[1], 0)
            for text in ["1" + "0" * 290 + "e-290", "0." + "0" * 280 + "1e281", "00001", "1.000e-0000"]:
                self.assertEqual(read(shape, text), one)

    def test_the_machine_s_own(self):
        for row in doubles(32, 2000):
            value = undoubled(row)
            for text in (repr(value), "{:.16e}".format(value), "{:.3e}".format(value)):
                text = text.replace("e+", "e").replace("inf", "1e999")
                self.assertEqual(read((11, 52), text)[0], double(float(text)), text)

    def test_by_name_and_without_a_way(self):
        self.assertEqual(read(way="off", text="0.125", shape=LEAST), (1, 3))
        self.assertEqual(read(LEAST, "0.125"), (0, 3))

    def test_many_more_figures_than_promised(self):
        # Python's own int refuses more than 4300 figures.
        self.assertEqual(read(LEAST, "0" * 5000 + "1." + "0" * 5000), (4, 0))
        self.assertEqual(read(LEAST, "1" * 5000), (12, 5))


class TestEndsAndNones(unittest.TestCase):
    def test_ends(self):
        for shape in SHAPES:
            for way in WAYS:
                self.assertEqual(read(shape, "end", way), (end_row(shape, 0), 0))
                self.assertEqual(read(shape, "-end", way), (end_row(shape, 1), 0))

    def test_all_nones_of_small_shapes(self):
        for shape in SMALL_SHAPES:
            rank, half = 2 ** shape[0] - 1, 2 ** (shape[1] - 1)
            for sign in SIGNS:
                for mark in range(half):
                    for way in WAYS:
                        wanted = (written(shape, sign, rank, half + mark), 0)
                        self.assertEqual(read(shape, "-" * sign + f"still {mark}", way), wanted)
                        if mark:
                            wanted = (written(shape, sign, rank, mark), 0)
                            self.assertEqual(read(shape, "-" * sign + f"loud {mark}", way), wanted)

    def test_marks_at_the_bound(self):
        for shape in SHAPES:
            rank, half = 2 ** shape[0] - 1, 2 ** (shape[1] - 1)
            for sign in SIGNS:
                told = read(shape, "-" * sign + f"loud {half - 1}")
                self.assertEqual(told, (written(shape, sign, rank, half - 1), 0))
                told = read(shape, "-" * sign + f"still {half - 1}")
                self.assertEqual(told, (written(shape, sign, rank, 2 * half - 1), 0))

    def refuse_parts(self, shape, text):
        for sign in ("", "-"):
            for way in WAYS:
                with self.assertRaises(NoParts) as caught:
                    read(shape, sign + text, way)
                self.assertIsInstance(caught.exception, FoldError)

    def test_marks_that_the_shape_does_not_have(self):
        for shape in SHAPES:
            half = 2 ** (shape[1] - 1)
            # 2 ** 59, the first that (11, 60) lacks, has eighteen figures.
            for mark in [half, half + 1, half + half // 2, 10 ** 18 - 1]:
                self.refuse_parts(shape, f"still {mark}")
                self.refuse_parts(shape, f"loud {mark}")
            self.refuse_parts(shape, "loud 0")

    def test_a_mark_of_nineteen_figures_is_no_text(self):
        for text, begin in [("still " + "1" * 19, 24), ("loud 1" + "0" * 18, 23), ("still 00", 7)]:
            with self.assertRaises(NoText) as caught:
                read(GREATEST, text)
            self.assertEqual(caught.exception.at, begin)

    def test_loud_ones_stay_loud(self):
        for shape in SMALL_SHAPES:
            rows = {read(shape, f"loud {mark}")[0] for mark in range(1, 2 ** (shape[1] - 1))}
            wanted = {last_size(shape) + mark for mark in range(1, 2 ** (shape[1] - 1))}
            self.assertEqual(rows, wanted)
            self.assertTrue(rows <= set(all_bits(shape)))


if __name__ == "__main__":
    unittest.main()
