"""Point 13: exact worths."""

import math
import struct
import unittest
from fractions import Fraction

from helper import (
    GREATEST, LEAST, SHAPES, SMALL_SHAPES, all_bits, last_size, measure, places, signed_row,
    written,
)
from nearfold.errors import NoNumber
from nearfold.worths import by_units, grain_of, height_of, held, lowest, units_of, worth_of

SIGNS = (0, 1)


def edge_sizes(shape):
    e, m = shape
    last = last_size(shape)
    return [0, 1, 2 ** m - 1, 2 ** m, 2 ** m + 1, 2 ** (m + 1), last // 2, last - 2, last - 1]


def no_numbers(shape):
    """Ends and nones, of both signs."""
    e, m = shape
    top, half = 2 ** e - 1, 2 ** (m - 1)
    bodies = (0, 1, half - 1, half, 2 ** m - 1)
    return [written(shape, sign, top, body) for body in bodies for sign in SIGNS]


class TestHeights(unittest.TestCase):
    def test_grains(self):
        told = {(2, 2): 2, (3, 5): 7, (3, 4): 6, (5, 10): 24, (8, 23): 149, (11, 52): 1074}
        told[GREATEST] = 1082
        for shape, grain in told.items():
            self.assertEqual(grain_of(shape), grain)

    def test_grain_is_that_of_the_least_number(self):
        for shape in SHAPES:
            self.assertEqual(measure(shape, 1), Fraction(1, 2 ** grain_of(shape)))

    def test_heights_of_the_least_shape(self):
        heights = [height_of(LEAST, size) for size in range(13)]
        self.assertEqual(heights, [0, 1, 2, 3, 4, 5, 6, 7, 8, 10, 12, 14, 16])

    def test_heights_at_the_edges(self):
        for shape in SHAPES:
            e, m = shape
            last = last_size(shape)
            greatest_step = 2 ** (2 ** e - 3)
            self.assertEqual(height_of(shape, 0), 0)
            self.assertEqual(height_of(shape, 1), 1)
            self.assertEqual(height_of(shape, 2 ** m - 1), 2 ** m - 1)
            self.assertEqual(height_of(shape, 2 ** m), 2 ** m)
            self.assertEqual(height_of(shape, last - 1), (2 ** (m + 1) - 1) * greatest_step)
            self.assertEqual(height_of(shape, last), 2 ** (m + 1) * greatest_step)

    def test_heights_are_measures_in_units(self):
        for shape in SHAPES:
            for size in edge_sizes(shape) + [last_size(shape)]:
                height = height_of(shape, size)
                self.assertIs(type(height), int)
                self.assertEqual(Fraction(height, 2 ** grain_of(shape)), measure(shape, size))

    def test_how_heights_rise(self):
        for shape in SMALL_SHAPES:
            m = shape[1]
            for size in range(last_size(shape)):
                rank = size // 2 ** m
                step = height_of(shape, size + 1) - height_of(shape, size)
                self.assertEqual(step, 1 if rank < 2 else 2 ** (rank - 1))


class TestUnits(unittest.TestCase):
    def test_there_and_back_in_small_shapes(self):
        for shape in SMALL_SHAPES:
            for size in range(last_size(shape)):
                height = measure(shape, size) * 2 ** grain_of(shape)
                plain, below = signed_row(shape, 0, size), signed_row(shape, 1, size)
                self.assertEqual(units_of(shape, plain), height)
                self.assertEqual(units_of(shape, below), -height)
                self.assertEqual(by_units(shape, 0, int(height)), plain)
                self.assertEqual(by_units(shape, 1, int(height)), below)

    def test_there_and_back_at_the_edges(self):
        for shape in SHAPES:
            for size in edge_sizes(shape):
                for sign in SIGNS:
                    bits = signed_row(shape, sign, size)
                    units = units_of(shape, bits)
                    self.assertIs(type(units), int)
                    self.assertEqual(abs(units), height_of(shape, size))
                    self.assertEqual(by_units(shape, sign, abs(units)), bits)

    def test_both_noughts(self):
        for shape in SHAPES:
            for sign in SIGNS:
                nought = written(shape, sign, 0, 0)
                self.assertEqual(units_of(shape, nought), 0)
                self.assertEqual(by_units(shape, sign, 0), nought)

    def test_all_whole_numbers_of_small_shapes(self):
        for shape in SMALL_SHAPES:
            last = last_size(shape)
            sizes = {height_of(shape, size): size for size in range(last)}
            for many in range(2 * height_of(shape, last)):
                for sign in SIGNS:
                    wanted = None
                    if many in sizes:
                        wanted = signed_row(shape, sign, sizes[many])
                    self.assertEqual(by_units(shape, sign, many), wanted, (shape, many))

    def test_units_that_no_number_has(self):
        for shape in SHAPES:
            m = shape[1]
            end = height_of(shape, last_size(shape))
            greatest = height_of(shape, last_size(shape) - 1)
            first_gap = 2 ** (m + 1) + 1
            for many in (first_gap, greatest - 1, greatest + 1, end - 1, end, end + 1,
                         2 * end, 3 * end, end ** 2, 10 ** 999):
                for sign in SIGNS:
                    self.assertIsNone(by_units(shape, sign, many), (shape, many))

    def test_ends_and_nones_are_refused(self):
        for shape in SHAPES:
            for bits in no_numbers(shape):
                with self.assertRaises(NoNumber):
                    units_of(shape, bits)


class TestWorths(unittest.TestCase):
    def test_told_examples(self):
        self.assertEqual(worth_of((3, 5), written((3, 5), 0, 0, 1)), (1, 128))
        self.assertEqual(worth_of((3, 4), written((3, 4), 0, 3, 0)), (1, 1))
        self.assertEqual(worth_of((3, 4), written((3, 4), 1, 3, 8)), (-3, 2))
        self.assertEqual(worth_of((3, 4), written((3, 4), 1, 6, 15)), (-31, 2))
        self.assertEqual(worth_of((3, 4), written((3, 4), 0, 0, 0)), (0, 1))
        self.assertEqual(worth_of((3, 4), written((3, 4), 1, 0, 0)), (0, 1))

    def check_worth(self, shape, bits):
        top, bottom = told = worth_of(shape, bits)
        sign = places(shape, bits)[0]
        exact = measure(shape, bits % 2 ** sum(shape))
        self.assertIs(type(told), tuple)
        self.assertEqual(Fraction(top, bottom), -exact if sign else exact)
        self.assertGreaterEqual(bottom, 1)
        self.assertEqual(math.gcd(top, bottom), 1)

    def test_all_worths_of_small_shapes(self):
        for shape in SMALL_SHAPES:
            for bits in all_bits(shape):
                if bits not in no_numbers(shape) and bits % 2 ** sum(shape) < last_size(shape):
                    self.check_worth(shape, bits)

    def test_worths_at_the_edges(self):
        for shape in SHAPES:
            for size in edge_sizes(shape):
                for sign in SIGNS:
                    self.check_worth(shape, signed_row(shape, sign, size))

    def test_against_the_machine_s_own_numbers(self):
        for number in (0.0, 1.0, -0.1, 1e300, -1e-300, 5e-324, 2.0 ** -1022, 1.5, -3.75):
            bits = struct.unpack(">Q", struct.pack(">d", number))[0]
            self.assertEqual(worth_of((11, 52), bits), number.as_integer_ratio())

    def test_ends_and_nones_are_refused(self):
        for shape in SHAPES:
            for bits in no_numbers(shape):
                with self.assertRaises(NoNumber):
                    worth_of(shape, bits)


class TestLowest(unittest.TestCase):
    def test_told_examples(self):
        told = {
            (6, 4): (3, 2), (-6, 4): (-3, 2), (0, 1): (0, 1), (0, 9): (0, 1), (7, 1): (7, 1),
            (-7, 1): (-7, 1), (7, 7): (1, 1), (-7, 7): (-1, 1), (1, 8): (1, 8), (12, 18): (2, 3),
            (-35, 21): (-5, 3), (21, 35): (3, 5), (100, 10): (10, 1), (1, 1): (1, 1),
        }
        for (top, bottom), wanted in told.items():
            self.assertEqual(lowest(top, bottom), wanted)
            self.assertIs(type(lowest(top, bottom)), tuple)

    def test_many_small_ones(self):
        for top in range(-40, 41):
            for bottom in range(1, 41):
                exact = Fraction(top, bottom)
                self.assertEqual(lowest(top, bottom), (exact.numerator, exact.denominator))

    def test_many_figures(self):
        shared = 3 ** 900 * 7
        self.assertEqual(lowest(5 ** 400 * shared, 2 ** 700 * shared), (5 ** 400, 2 ** 700))
        self.assertEqual(lowest(-(5 ** 400) * shared, 2 ** 700 * shared), (-(5 ** 400), 2 ** 700))
        self.assertEqual(lowest(0, 10 ** 999), (0, 1))


class TestHeld(unittest.TestCase):
    def test_all_pairs_of_small_shapes(self):
        for shape in (LEAST, (3, 2)):
            numbers = [signed_row(shape, sign, size)
                       for sign in SIGNS for size in range(last_size(shape))]
            for one in numbers:
                for other in numbers:
                    left, right = Fraction(*worth_of(shape, one)), Fraction(*worth_of(shape, other))
                    wanted = (left > right) - (left < right)
                    self.assertEqual(held(shape, one, other), wanted, (shape, one, other))

    def test_edges_of_all_shapes(self):
        for shape in SHAPES:
            last = last_size(shape)
            for size in (1, 2 ** shape[1], last - 1):
                for less in (0, size - 1):
                    plain, lower = signed_row(shape, 0, size), signed_row(shape, 0, less)
                    self.assertEqual(held(shape, lower, plain), -1)
                    self.assertEqual(held(shape, plain, lower), 1)
                    self.assertEqual(held(shape, plain, plain), 0)
                    turned, higher = signed_row(shape, 1, size), signed_row(shape, 1, less)
                    self.assertEqual(held(shape, turned, higher), -1)
                    self.assertEqual(held(shape, higher, turned), 1)
                    self.assertEqual(held(shape, turned, plain), -1)
                    self.assertEqual(held(shape, plain, turned), 1)

    def test_both_noughts_are_alike(self):
        for shape in SHAPES:
            noughts = [signed_row(shape, sign, 0) for sign in SIGNS]
            for one in noughts:
                for other in noughts:
                    self.assertEqual(held(shape, one, other), 0)


if __name__ == "__main__":
    unittest.main()
