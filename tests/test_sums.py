"""Point 18: sums and differences."""

import unittest

from helper import (
    GREATEST, LEAST, SHAPES, SIGNS, WAYS, PairTests, double, doubles, edge_numbers, end_row,
    last_size, model_none, model_sum, odd_row, part_of, places, signed_row, undoubled,
)
from nearfold.sums import minus, plus


def other_sign(shape, row):
    sign, rank, body = places(shape, row)
    return signed_row(shape, 1 - sign, rank * 2 ** shape[1] + body)


def model_plus(shape, one, other, way):
    told = model_none(shape, [one, other])
    if told is None:
        told = model_sum(shape, [part_of(shape, one), part_of(shape, other)], way)
    return told


def model_minus(shape, one, other, way):
    told = model_none(shape, [one, other])
    if told is None:
        told = model_plus(shape, one, other_sign(shape, other), way)
    return told


class TestByTheModel(PairTests, unittest.TestCase):
    def check(self, shape, one, other):
        for way in WAYS:
            where = (shape, one, other, way)
            told = plus(shape, one, other, way)
            self.assertIs(type(told), tuple)
            self.assertEqual(told, model_plus(shape, one, other, way), where)
            told = minus(shape, one, other, way)
            self.assertIs(type(told), tuple)
            self.assertEqual(told, model_minus(shape, one, other, way), where)


class TestByHand(unittest.TestCase):
    """The shape (2, 2): heights 0 to 8 by ones, 10, 12, 14, and 16 beyond; the sign is 16,
    the end 12, the told none 14."""

    def test_sums_in_units(self):
        told = [
            (1, 1, "even", 2, 0), (3, 4, "even", 7, 0), (7, 1, "even", 8, 0),
            (7, 2, "even", 8, 1), (7, 2, "off", 9, 1), (7, 2, "in", 8, 1), (7, 2, "up", 9, 1),
            (7, 2, "down", 8, 1), (7, 4, "even", 10, 1), (7, 4, "in", 9, 1),
            (11, 1, "even", 12, 5), (11, 1, "off", 12, 5), (11, 1, "in", 11, 1),
            (11, 1, "up", 12, 5), (11, 1, "down", 11, 1), (10, 3, "even", 12, 5),
            (11, 2, "even", 12, 5), (11, 2, "in", 11, 5), (11, 2, "down", 11, 5),
            (11, 11, "in", 11, 5), (11, 11, "up", 12, 5),
            (27, 17, "even", 28, 5), (27, 17, "down", 28, 5), (27, 17, "up", 27, 1),
            (27, 18, "up", 27, 5), (23, 18, "down", 25, 1), (23, 18, "up", 24, 1),
            (27, 7, "even", 23, 0), (7, 27, "down", 23, 0), (11, 17, "even", 10, 1),
            (11, 17, "up", 11, 1), (11, 17, "off", 11, 1), (3, 18, "even", 1, 0),
            (2, 19, "even", 17, 0),
        ]
        for one, other, way, bits, flags in told:
            where = (one, other, way)
            self.assertEqual(plus(LEAST, one, other, way), (bits, flags), where)
            self.assertEqual(plus(LEAST, other, one, way), (bits, flags), where)
            self.assertEqual(minus(LEAST, one, other ^ 16, way), (bits, flags), where)

    def test_ends(self):
        told = [
            (12, 12, 12, 0), (28, 28, 28, 0), (12, 28, 14, 16), (28, 12, 14, 16),
            (12, 0, 12, 0), (12, 16, 12, 0), (12, 27, 12, 0), (0, 12, 12, 0), (27, 12, 12, 0),
            (28, 0, 28, 0), (28, 11, 28, 0), (11, 28, 28, 0), (16, 28, 28, 0),
        ]
        for one, other, bits, flags in told:
            for way in WAYS:
                self.assertEqual(plus(LEAST, one, other, way), (bits, flags))
                self.assertEqual(minus(LEAST, one, other ^ 16, way), (bits, flags))

    def test_nothing(self):
        for way in WAYS:
            unlike = 16 if way == "down" else 0
            told = [
                (0, 0, 0), (16, 16, 16), (0, 16, unlike), (16, 0, unlike), (1, 17, unlike),
                (17, 1, unlike), (11, 27, unlike), (27, 11, unlike),
            ]
            for one, other, bits in told:
                self.assertEqual(plus(LEAST, one, other, way), (bits, 0), (one, other, way))
                self.assertEqual(minus(LEAST, one, other ^ 16, way), (bits, 0))

    def test_by_name_and_without_a_way(self):
        self.assertEqual(plus(way="up", other=2, one=7, shape=LEAST), (9, 1))
        self.assertEqual(minus(way="up", other=18, one=7, shape=LEAST), (9, 1))
        self.assertEqual(minus(LEAST, 1, 3), (18, 0))
        self.assertEqual(plus(LEAST, 7, 2), (8, 1))
        self.assertEqual(minus(LEAST, 7, 18), (8, 1))


class TestTables(unittest.TestCase):
    def test_ends_in_all_shapes(self):
        for shape in SHAPES:
            high, low = end_row(shape, 0), end_row(shape, 1)
            for way in WAYS:
                self.assertEqual(plus(shape, high, low, way), odd_row(shape))
                self.assertEqual(minus(shape, high, high, way), odd_row(shape))
                self.assertEqual(minus(shape, low, low, way), odd_row(shape))
                self.assertEqual(minus(shape, high, low, way), (high, 0))
                self.assertEqual(minus(shape, low, high, way), (low, 0))
                for row in edge_numbers(shape):
                    self.assertEqual(plus(shape, high, row, way), (high, 0))
                    self.assertEqual(plus(shape, row, low, way), (low, 0))
                    self.assertEqual(minus(shape, row, high, way), (low, 0))

    def test_a_number_less_itself(self):
        for shape in SHAPES:
            for row in edge_numbers(shape):
                for way in WAYS:
                    wanted = signed_row(shape, int(way == "down"), 0)
                    self.assertEqual(minus(shape, row, row, way), (wanted, 0))

    def test_a_number_and_a_nought(self):
        for shape in SHAPES:
            for row in edge_numbers(shape):
                if row % 2 ** sum(shape):
                    for sign in SIGNS:
                        nought = signed_row(shape, sign, 0)
                        for way in WAYS:
                            self.assertEqual(plus(shape, row, nought, way), (row, 0))
                            self.assertEqual(plus(shape, nought, row, way), (row, 0))
                            self.assertEqual(minus(shape, row, nought, way), (row, 0))

    def test_the_least_beside_the_greatest(self):
        # With e = 2 the least number is half a step of the greatest one.
        for shape in [shape for shape in SHAPES if shape[0] > 2]:
            last = last_size(shape)
            for sign in SIGNS:
                great, small = signed_row(shape, sign, last - 1), signed_row(shape, sign, 1)
                end = signed_row(shape, sign, last)
                outwards = "down" if sign else "up"
                inwards = "up" if sign else "down"
                self.assertEqual(plus(shape, great, small), (great, 1))
                self.assertEqual(plus(shape, great, small, "in"), (great, 1))
                self.assertEqual(plus(shape, great, small, inwards), (great, 1))
                self.assertEqual(plus(shape, great, small, outwards), (end, 5))
                self.assertEqual(plus(shape, great, great, "even"), (end, 5))
                self.assertEqual(plus(shape, great, great, "in"), (great, 5))

    def test_sums_are_never_faint(self):
        # All numbers are whole units, so what is below the least plain one is exact.
        for shape in SHAPES:
            for one in edge_numbers(shape):
                for other in edge_numbers(shape):
                    for way in WAYS:
                        self.assertEqual(plus(shape, one, other, way)[1] & 2, 0)


class TestAgainstTheMachine(unittest.TestCase):
    def test_doubles(self):
        rows = doubles(18, 3000)
        for one, other in zip(rows, rows[1:]):
            first, second = undoubled(one), undoubled(other)
            self.assertEqual(plus((11, 52), one, other)[0], double(first + second))
            self.assertEqual(minus((11, 52), one, other)[0], double(first - second))

    def test_tenths(self):
        told = plus((11, 52), double(0.1), double(0.2))
        self.assertEqual(told, (double(0.30000000000000004), 1))
        self.assertEqual(plus((11, 52), double(0.25), double(0.5)), (double(0.75), 0))

    def test_in_the_greatest_shape(self):
        one = 1023 * 2 ** 60
        self.assertEqual(plus(GREATEST, one, 1), (one, 1))
        self.assertEqual(plus(GREATEST, one, 1, "up"), (one + 1, 1))
        self.assertEqual(minus(GREATEST, one, 1, "in"), (one - 1, 1))
        self.assertEqual(minus(GREATEST, one, 1, "off"), (one, 1))


if __name__ == "__main__":
    unittest.main()
