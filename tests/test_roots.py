"""Point 23: roots."""

import math
import unittest
from fractions import Fraction

from helper import (
    GREATEST, LEAST, SHAPES, SMALL_SHAPES, WAYS, all_bits, double, doubles, edge_rows, end_row,
    exact_of, kind_word, last_size, measure, model_none, model_rounded, odd_row, places,
    signed_row, undoubled,
)
from nearfold.roots import root


def root_of(exact):
    """The root of a fraction: just it where it is a fraction, else one so near to it that no
    size and no middle lies between both."""
    top, bottom = exact.numerator, exact.denominator
    if math.isqrt(top) ** 2 == top and math.isqrt(bottom) ** 2 == bottom:
        return Fraction(math.isqrt(top), math.isqrt(bottom))
    fine = 2 ** 7000
    return Fraction(2 * math.isqrt(top * bottom * fine ** 2) + 1, 2 * bottom * fine)


def model_root(shape, one, way):
    told = model_none(shape, [one])
    if told is not None:
        return told
    if kind_word(shape, one) == "nought" or one == end_row(shape, 0):
        return one, 0
    if places(shape, one)[0] == 1:
        return odd_row(shape)
    return model_rounded(shape, 0, root_of(exact_of(shape, one)), way)


class TestByTheModel(unittest.TestCase):
    def check(self, shape, one):
        for way in WAYS:
            told = root(shape, one, way)
            self.assertIs(type(told), tuple)
            self.assertEqual(told, model_root(shape, one, way), (shape, one, way))

    def test_all_of_small_shapes(self):
        for shape in SMALL_SHAPES:
            for one in all_bits(shape):
                self.check(shape, one)

    def test_edges_of_greater_shapes(self):
        for shape in SHAPES[5:]:
            for one in edge_rows(shape):
                self.check(shape, one)


class TestByHand(unittest.TestCase):
    def test_numbers_of_the_least_shape(self):
        # Heights 0 to 8 by ones, 10, 12, 14; four units are 1: 3 / 4 has a root of 3.46 units.
        told = [
            (1, "even", 2, 0), (1, "up", 2, 0), (2, "even", 3, 3), (2, "off", 3, 3),
            (2, "in", 2, 3), (2, "down", 2, 3), (2, "up", 3, 3), (3, "even", 3, 3),
            (3, "in", 3, 3), (3, "up", 4, 3), (3, "off", 3, 3), (4, "even", 4, 0),
            (5, "even", 4, 1), (5, "off", 4, 1), (5, "up", 5, 1), (5, "down", 4, 1),
            (6, "even", 5, 1), (6, "in", 4, 1), (7, "even", 5, 1), (8, "even", 6, 1),
            (8, "in", 5, 1), (9, "even", 6, 1), (9, "up", 7, 1), (10, "even", 7, 1),
            (10, "in", 6, 1), (11, "even", 7, 1), (11, "up", 8, 1),
        ]
        for one, way, bits, flags in told:
            self.assertEqual(root(LEAST, one, way), (bits, flags), (one, way))

    def test_noughts_ends_and_what_lies_below_nought(self):
        for shape in SHAPES:
            last = last_size(shape)
            for way in WAYS:
                for sign in (0, 1):
                    nought = signed_row(shape, sign, 0)
                    self.assertEqual(root(shape, nought, way), (nought, 0))
                self.assertEqual(root(shape, end_row(shape, 0), way), (end_row(shape, 0), 0))
                for size in (1, 2, 2 ** shape[1], last // 2, last - 1, last):
                    row = signed_row(shape, 1, size)
                    self.assertEqual(root(shape, row, way), odd_row(shape))

    def test_two(self):
        two, wanted = double(2.0), double(1.4142135623730951)
        self.assertEqual(root((11, 52), two), (wanted, 1))
        self.assertEqual(root((11, 52), two, "down"), (wanted - 1, 1))
        self.assertEqual(root((11, 52), two, "up"), (wanted, 1))
        self.assertEqual(root((11, 52), double(6.25), "up"), (double(2.5), 0))

    def test_by_name_and_without_a_way(self):
        self.assertEqual(root(way="up", one=3, shape=LEAST), (4, 3))
        self.assertEqual(root(LEAST, 3), (3, 3))


class TestEverywhere(unittest.TestCase):
    def test_never_amid(self):
        for shape in SMALL_SHAPES:
            for one in range(last_size(shape)):
                self.assertEqual(root(shape, one, "even"), root(shape, one, "off"))

    def test_squares_have_their_roots(self):
        for shape in [(3, 4), (5, 10), (8, 23), (11, 52), GREATEST]:
            one = (2 ** (shape[0] - 1) - 1) * 2 ** shape[1]
            half = 2 ** (shape[1] // 2)
            for size in range(one, one + 2 ** shape[1], max(1, 2 ** shape[1] // half)):
                square = measure(shape, size) ** 2
                row, flags = model_rounded(shape, 0, square, "even")
                if flags == 0:
                    for way in WAYS:
                        self.assertEqual(root(shape, row, way), (size, 0))
                if size > one + 40 * (2 ** shape[1] // half):
                    break

    def test_the_greatest_and_the_least(self):
        for shape in SHAPES:
            for one in (1, last_size(shape) - 1):
                low, high = root(shape, one, "down")[0], root(shape, one, "up")[0]
                self.assertLessEqual(measure(shape, low) ** 2, measure(shape, one))
                self.assertGreaterEqual(measure(shape, high) ** 2, measure(shape, one))
                self.assertLessEqual(high - low, 1)

    def test_faint_only_below_the_least_plain_one(self):
        seen = []
        for shape in SHAPES + [(3, 60), (4, 20), (5, 60)]:
            for one in (2, 3, 7, 2 ** shape[1] - 1):
                below = root_of(measure(shape, one)) < measure(shape, 2 ** shape[1])
                for way in WAYS:
                    flags = root(shape, one, way)[1]
                    self.assertEqual(flags & 2, 2 if below and flags else 0)
                    seen.append((below, flags))
        for wanted in ((True, 3), (False, 1)):
            self.assertIn(wanted, seen)

    def test_doubles_of_the_machine(self):
        for one in doubles(22, 2000):
            if one < 2 ** 63:
                told = root((11, 52), one)
                self.assertEqual(told[0], double(math.sqrt(undoubled(one))))


if __name__ == "__main__":
    unittest.main()
