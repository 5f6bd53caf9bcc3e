"""Point 27: from whole numbers and to whole numbers."""

import math
import unittest
from fractions import Fraction

from helper import (
    GREATEST, LEAST, SHAPES, SIGNS, SMALL_SHAPES, WAYS, all_bits, double, doubles, edge_rows,
    exact_of, kind_word, last_size, model_rounded, places, signed_row, undoubled, written,
)
from nearfold.errors import FoldError, NoWhole
from nearfold.wholes import from_whole, to_whole

WHOLES = [0, 1, 2, 3, 4, 5, 7, 8, 9, 15, 16, 17, 30, 31, 32, 33, 100, 2047, 2048, 2049, 2050, 2051,
          65503, 65504, 65519, 65520, 65536, 2 ** 24 + 1, 2 ** 53 - 1, 2 ** 53 + 1, 2 ** 54 + 2,
          2 ** 54 + 6, 2 ** 60, 2 ** 61 + 1, 2 ** 62 + 2, 2 ** 62 + 6, 10 ** 22, 10 ** 23,
          2 ** 128 - 2 ** 103, 2 ** 1024 - 2 ** 970, 2 ** 1024 - 2 ** 962, 2 ** 1024, 7 ** 350,
          10 ** 308, 10 ** 999, 10 ** 1000 - 1]


def half_off(exact):
    """The nearest whole number, of two as near the one farther from nought."""
    whole = math.floor(abs(exact) + Fraction(1, 2))
    return whole if exact >= 0 else -whole


BY_WAY = {"even": round, "off": half_off, "in": math.trunc, "up": math.ceil, "down": math.floor}


def model_to_whole(exact, way):
    return BY_WAY[way](exact), 0 if exact.denominator == 1 else 1


class TestFromWhole(unittest.TestCase):
    def test_by_the_model(self):
        for shape in SHAPES:
            for whole in WHOLES:
                for number in (whole, -whole):
                    for way in WAYS:
                        told = from_whole(shape, number, way)
                        self.assertIs(type(told), tuple)
                        sign = int(number < 0)
                        wanted = model_rounded(shape, sign, Fraction(whole), way)
                        self.assertEqual(told, wanted, (shape, number, way))

    def test_by_hand(self):
        # The shape (2, 2): 1 has the size 4, 2 the size 8, 3 the size 10; the end is 12.
        told = [
            (0, "even", 0, 0), (0, "down", 0, 0), (1, "even", 4, 0), (2, "up", 8, 0),
            (3, "in", 10, 0), (-1, "even", 20, 0), (-3, "down", 26, 0), (4, "even", 12, 5),
            (4, "off", 12, 5), (4, "in", 11, 5), (4, "down", 11, 5), (4, "up", 12, 5),
            (-4, "even", 28, 5), (-4, "up", 27, 5), (-4, "down", 28, 5), (10 ** 999, "in", 11, 5),
        ]
        for number, way, bits, flags in told:
            self.assertEqual(from_whole(LEAST, number, way), (bits, flags), (number, way))

    def test_between_two(self):
        # In the shape (5, 10) every second whole number from 2048 on has a row.
        low = from_whole((5, 10), 2048)[0]
        told = [
            (2049, "even", low, 1), (2049, "off", low + 1, 1), (2049, "in", low, 1),
            (2049, "up", low + 1, 1), (2049, "down", low, 1), (2050, "even", low + 1, 0),
            (2051, "even", low + 2, 1), (2051, "in", low + 1, 1),
        ]
        for number, way, bits, flags in told:
            self.assertEqual(from_whole((5, 10), number, way), (bits, flags))
        sign = 2 ** 15
        self.assertEqual(from_whole((5, 10), -2049, "up"), (sign + low, 1))
        self.assertEqual(from_whole((5, 10), -2049, "down"), (sign + low + 1, 1))

    def test_nought_has_the_sign_0(self):
        for shape in SHAPES:
            for way in WAYS:
                self.assertEqual(from_whole(shape, 0, way), (0, 0))

    def test_the_machine_s_own(self):
        for whole in WHOLES:
            if whole < 2 ** 1024 - 2 ** 970:
                self.assertEqual(from_whole((11, 52), whole)[0], double(float(whole)))
                self.assertEqual(from_whole((11, 52), -whole)[0], double(0.0 - float(whole)))

    def test_by_name_and_without_a_way(self):
        self.assertEqual(from_whole(way="in", number=4, shape=LEAST), (11, 5))
        self.assertEqual(from_whole(LEAST, 4), (12, 5))


class TestToWhole(unittest.TestCase):
    def check(self, shape, row):
        for way in WAYS:
            told = to_whole(shape, row, way)
            self.assertIs(type(told), tuple)
            self.assertEqual([type(part) for part in told], [int, int])
            self.assertEqual(told, model_to_whole(exact_of(shape, row), way), (shape, row, way))

    def test_all_numbers_of_small_shapes(self):
        for shape in SMALL_SHAPES:
            for row in all_bits(shape):
                if row % 2 ** sum(shape) < last_size(shape):
                    self.check(shape, row)

    def test_edges_of_all_shapes(self):
        for shape in SHAPES:
            for row in edge_rows(shape):
                if row % 2 ** sum(shape) < last_size(shape):
                    self.check(shape, row)

    def test_halves(self):
        # In the shape (3, 4): 1/2, 3/2, 5/2 and so on, each amid two whole numbers.
        for whole in range(8):
            row, flags = model_rounded((3, 4), 0, Fraction(2 * whole + 1, 2), "even")
            self.assertEqual(flags, 0)
            turned = row + 128
            even = whole + whole % 2
            self.assertEqual(to_whole((3, 4), row), (even, 1))
            self.assertEqual(to_whole((3, 4), turned), (-even, 1))
            self.assertEqual(to_whole((3, 4), row, "off"), (whole + 1, 1))
            self.assertEqual(to_whole((3, 4), turned, "off"), (-whole - 1, 1))
            self.assertEqual(to_whole((3, 4), row, "in"), (whole, 1))
            self.assertEqual(to_whole((3, 4), turned, "in"), (-whole, 1))
            self.assertEqual(to_whole((3, 4), row, "up"), (whole + 1, 1))
            self.assertEqual(to_whole((3, 4), turned, "up"), (-whole, 1))
            self.assertEqual(to_whole((3, 4), row, "down"), (whole, 1))
            self.assertEqual(to_whole((3, 4), turned, "down"), (-whole - 1, 1))

    def test_noughts(self):
        for shape in SHAPES:
            for sign in SIGNS:
                for way in WAYS:
                    self.assertEqual(to_whole(shape, signed_row(shape, sign, 0), way), (0, 0))

    def test_the_least_number(self):
        # Faint is a flag of rounding to rows: here only near is told.
        for shape in SHAPES:
            self.assertEqual(to_whole(shape, 1), (0, 1))
            self.assertEqual(to_whole(shape, 1, "up"), (1, 1))
            self.assertEqual(to_whole(shape, 1 + 2 ** sum(shape), "down"), (-1, 1))
            self.assertEqual(to_whole(shape, 1 + 2 ** sum(shape), "up"), (0, 1))

    def test_the_greatest_number(self):
        wanted = (2 ** 61 - 1) * 2 ** 963
        self.assertEqual(to_whole(GREATEST, last_size(GREATEST) - 1), (wanted, 0))
        self.assertEqual(to_whole(LEAST, 11), (4, 1))
        self.assertEqual(to_whole(LEAST, 11, "in"), (3, 1))

    def test_there_and_back(self):
        for shape in SHAPES:
            for whole in WHOLES:
                for number in (whole, -whole):
                    bits, flags = from_whole(shape, number)
                    if flags == 0:
                        for way in WAYS:
                            self.assertEqual(to_whole(shape, bits, way), (number, 0))

    def test_doubles_of_the_machine(self):
        for row in doubles(24, 2000):
            exact = undoubled(row)
            self.assertEqual(to_whole((11, 52), row)[0], round(exact))
            self.assertEqual(to_whole((11, 52), row, "up")[0], math.ceil(exact))
            self.assertEqual(to_whole((11, 52), row, "down")[0], math.floor(exact))
            self.assertEqual(to_whole((11, 52), row, "in")[0], math.trunc(exact))

    def test_by_name_and_without_a_way(self):
        self.assertEqual(to_whole(way="up", bits=5, shape=LEAST), (2, 1))
        self.assertEqual(to_whole(LEAST, 5), (1, 1))


class TestNoWhole(unittest.TestCase):
    def refused(self, shape, row, way):
        with self.assertRaises(NoWhole) as caught:
            to_whole(shape, row, way)
        self.assertIsInstance(caught.exception, FoldError)
        return caught.exception.kind

    def test_words_of_kinds(self):
        for shape in SHAPES:
            e, m = shape
            half = 2 ** (m - 1)
            bodies = {0: "end", 1: "loud", half - 1: "loud", half: "still", 2 ** m - 1: "still"}
            for body, word in bodies.items():
                for sign in SIGNS:
                    row = written(shape, sign, 2 ** e - 1, body)
                    for way in WAYS:
                        self.assertEqual(self.refused(shape, row, way), word)

    def test_all_of_small_shapes(self):
        for shape in SMALL_SHAPES:
            for row in all_bits(shape):
                if places(shape, row)[1] == 2 ** shape[0] - 1:
                    self.assertEqual(self.refused(shape, row, "even"), kind_word(shape, row))


if __name__ == "__main__":
    unittest.main()
