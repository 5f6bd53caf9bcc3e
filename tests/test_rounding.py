"""Point 16: an exact measure, rounded by a way."""

import struct
import unittest
from fractions import Fraction

from helper import (
    FAINT, GREATEST, LEAST, NEAR, OVER, SHAPES, SMALL_SHAPES, WAYS, last_size, measure,
    model_rounded, signed_row,
)
from nearfold.rounding import rounded

SIGNS = (0, 1)
TINY = Fraction(1, 10 ** 400)


def outwards(way, sign):
    """Whether a way that looks to one side only looks away from nought."""
    return (way, sign) in (("up", 0), ("down", 1))


class RoundingCase(unittest.TestCase):
    def told(self, shape, sign, exact, way):
        return rounded(shape, sign, exact.numerator, exact.denominator, way)

    def check(self, shape, exact, way, size, flags):
        """Both signs come to the same size and flags."""
        for sign in SIGNS:
            self.check_sign(shape, sign, exact, way, size, flags)

    def check_sign(self, shape, sign, exact, way, size, flags):
        told = self.told(shape, sign, exact, way)
        self.assertIs(type(told), tuple)
        wanted = (signed_row(shape, sign, size), flags)
        self.assertEqual(told, wanted, (shape, sign, way))

    def check_one_sided(self, shape, exact, low, flags, on_flags):
        """The ways in, up and down between the sizes low and low + 1."""
        for sign in SIGNS:
            for way in ("in", "up", "down"):
                on = outwards(way, sign)
                size, wanted = (low + 1, on_flags) if on else (low, flags)
                self.check_sign(shape, sign, exact, way, size, wanted)


def edge_sizes(shape):
    m = shape[1]
    last = last_size(shape)
    return [0, 1, 2, 2 ** m - 2, 2 ** m - 1, 2 ** m, 2 ** m + 1, 2 ** (m + 1) - 1, 2 ** (m + 1),
            last // 2, last // 2 + 1, last - 3, last - 2, last - 1]


class TestNumbersAsTheyAre(RoundingCase):
    def test_a_number_of_the_shape_has_no_flags(self):
        for shape in SHAPES:
            for size in edge_sizes(shape):
                for way in WAYS:
                    self.check(shape, measure(shape, size), way, size, 0)

    def test_all_numbers_of_small_shapes(self):
        for shape in SMALL_SHAPES:
            for size in range(last_size(shape)):
                for way in WAYS:
                    self.check(shape, measure(shape, size), way, size, 0)

    def test_not_in_lowest_terms(self):
        for shape in SHAPES:
            for size in edge_sizes(shape):
                exact = measure(shape, size)
                for more in (2, 3, 10 ** 300, 7 ** 300):
                    top, bottom = exact.numerator * more, exact.denominator * more
                    for sign in SIGNS:
                        wanted = (signed_row(shape, sign, size), 0)
                        for way in WAYS:
                            self.assertEqual(rounded(shape, sign, top, bottom, way), wanted)

    def test_top_0_keeps_the_sign(self):
        for shape in SHAPES:
            for bottom in (1, 2, 7, 10 ** 999):
                for sign in SIGNS:
                    for way in WAYS:
                        wanted = (signed_row(shape, sign, 0), 0)
                        self.assertEqual(rounded(shape, sign, 0, bottom, way), wanted)


class TestBetween(RoundingCase):
    def flags_between(self, shape, low, told):
        flags = NEAR
        if low < 2 ** shape[1]:
            flags |= FAINT
        if told == last_size(shape):
            flags |= OVER
        return flags

    def check_between(self, shape, low, exact, even_size, off_size):
        sizes = {"even": even_size, "off": off_size}
        for way, size in sizes.items():
            self.check(shape, exact, way, size, self.flags_between(shape, low, size))
        self.check_one_sided(
            shape, exact, low,
            self.flags_between(shape, low, low), self.flags_between(shape, low, low + 1))

    def test_just_amid(self):
        for shape in SHAPES:
            for low in edge_sizes(shape):
                amid = (measure(shape, low) + measure(shape, low + 1)) / 2
                even_size = low if low % 2 == 0 else low + 1
                self.check_between(shape, low, amid, even_size, low + 1)

    def test_a_very_little_beside_the_middle(self):
        for shape in SHAPES:
            for low in edge_sizes(shape):
                amid = (measure(shape, low) + measure(shape, low + 1)) / 2
                self.check_between(shape, low, amid - TINY, low, low)
                self.check_between(shape, low, amid + TINY, low + 1, low + 1)

    def test_very_near_to_either_height(self):
        for shape in SHAPES:
            for low in edge_sizes(shape):
                self.check_between(shape, low, measure(shape, low) + TINY, low, low)
                self.check_between(shape, low, measure(shape, low + 1) - TINY, low + 1, low + 1)

    def test_the_way_left_out_is_even(self):
        for shape in SHAPES:
            for low in edge_sizes(shape):
                amid = (measure(shape, low) + measure(shape, low + 1)) / 2
                for exact in (measure(shape, low), amid - TINY, amid, amid + TINY):
                    for sign in SIGNS:
                        top, bottom = exact.numerator, exact.denominator
                        told = rounded(shape, sign, top, bottom)
                        self.assertEqual(told, rounded(shape, sign, top, bottom, "even"))
                        self.assertEqual(told, rounded(shape, sign, top, bottom, way="even"))

    def test_by_the_model_over_small_shapes(self):
        for shape in SMALL_SHAPES:
            for low in range(last_size(shape)):
                step = measure(shape, low + 1) - measure(shape, low)
                for eighth in range(8):
                    exact = measure(shape, low) + step * eighth / 8
                    for sign in SIGNS:
                        for way in WAYS:
                            wanted = model_rounded(shape, sign, exact, way)
                            self.assertEqual(self.told(shape, sign, exact, way), wanted)

    def test_by_the_model_over_simple_fractions(self):
        for shape in [LEAST, (3, 4), (5, 10), GREATEST]:
            for bottom in (1, 3, 7, 10, 1000):
                for top in (1, 2, 5, 9, 22, 100, 333, 98765):
                    for sign in SIGNS:
                        for way in WAYS:
                            wanted = model_rounded(shape, sign, Fraction(top, bottom), way)
                            self.assertEqual(rounded(shape, sign, top, bottom, way), wanted)


class TestFaint(RoundingCase):
    def test_told_ahead_of_rounding(self):
        for shape in SHAPES:
            plain = 2 ** shape[1]
            exact = measure(shape, plain)
            for way in ("even", "off"):
                self.check(shape, exact - TINY, way, plain, NEAR | FAINT)
                self.check(shape, exact, way, plain, 0)
                self.check(shape, exact + TINY, way, plain, NEAR)
            self.check_one_sided(
                shape, exact - TINY, plain - 1, NEAR | FAINT, NEAR | FAINT)
            self.check_one_sided(shape, exact + TINY, plain, NEAR, NEAR)

    def test_below_the_least_number(self):
        for shape in SHAPES:
            half = measure(shape, 1) / 2
            self.check(shape, half, "even", 0, NEAR | FAINT)
            self.check(shape, half, "off", 1, NEAR | FAINT)
            for exact in (TINY * TINY, half - TINY * TINY):
                self.check(shape, exact, "even", 0, NEAR | FAINT)
                self.check(shape, exact, "off", 0, NEAR | FAINT)
                self.check_one_sided(shape, exact, 0, NEAR | FAINT, NEAR | FAINT)

    def test_a_small_number_itself_is_not_faint(self):
        for shape in SHAPES:
            for way in WAYS:
                self.check(shape, measure(shape, 1), way, 1, 0)


class TestOver(RoundingCase):
    def test_between_the_greatest_number_and_the_end(self):
        for shape in SHAPES:
            last = last_size(shape)
            greatest, end = measure(shape, last - 1), measure(shape, last)
            amid = (greatest + end) / 2
            for way in ("even", "off"):
                self.check(shape, greatest, way, last - 1, 0)
                self.check(shape, greatest + TINY, way, last - 1, NEAR)
                self.check(shape, amid - TINY, way, last - 1, NEAR)
                self.check(shape, amid, way, last, NEAR | OVER)
                self.check(shape, amid + TINY, way, last, NEAR | OVER)
                self.check(shape, end - TINY, way, last, NEAR | OVER)
            for exact in (greatest + TINY, amid - TINY, amid, amid + TINY, end - TINY):
                self.check_one_sided(shape, exact, last - 1, NEAR, NEAR | OVER)

    def test_at_the_end_s_height_and_beyond(self):
        for shape in SHAPES:
            last = last_size(shape)
            end = measure(shape, last)
            unit = measure(shape, 1)
            for exact in (end, end + TINY, end + unit, end + 1, 3 * end / 2, 2 * end, end * end,
                          Fraction(10 ** 999)):
                for way in ("even", "off"):
                    self.check(shape, exact, way, last, NEAR | OVER)
                self.check_one_sided(shape, exact, last - 1, NEAR | OVER, NEAR | OVER)

    def test_not_in_lowest_terms(self):
        for shape in SHAPES:
            last = last_size(shape)
            end = measure(shape, last)
            for more in (3, 10 ** 300):
                for sign in SIGNS:
                    top, bottom = end.numerator * more, end.denominator * more
                    told = rounded(shape, sign, top, bottom, "even")
                    self.assertEqual(told, (signed_row(shape, sign, last), NEAR | OVER))
                    told = rounded(shape, sign, top, bottom, "in")
                    self.assertEqual(told, (signed_row(shape, sign, last - 1), NEAR | OVER))


class TestManyFigures(RoundingCase):
    def test_tops_and_bottoms_of_a_thousand_figures(self):
        pairs = [
            (10 ** 999 + 7, 10 ** 999 - 7), (10 ** 999, 3 ** 2000), (3 ** 2000, 10 ** 999),
            (10 ** 999 - 1, 1), (1, 10 ** 999 - 1), (7 ** 1100, 11 ** 900), (2 ** 3300, 5 ** 1400),
            (10 ** 999 - 1, 10 ** 700), (10 ** 700, 10 ** 999 - 1),
        ]
        for shape in SHAPES:
            for top, bottom in pairs:
                for sign in SIGNS:
                    for way in WAYS:
                        wanted = model_rounded(shape, sign, Fraction(top, bottom), way)
                        self.assertEqual(rounded(shape, sign, top, bottom, way), wanted)

    def test_tops_and_bottoms_of_more_figures(self):
        top, bottom = 10 ** 9999 * 3 + 1, 10 ** 9999 * 2
        self.assertEqual(rounded((3, 4), 0, top, bottom), (0b0_011_1000, NEAR))
        self.assertEqual(rounded((3, 4), 0, top, bottom, "up"), (0b0_011_1001, NEAR))


class TestAgainstTheMachine(RoundingCase):
    def test_quotients_of_whole_numbers(self):
        # Python rounds a quotient of two whole numbers once, as "even" does here.
        tops = [1, 2, 3, 10, 97, 10 ** 20 + 1, 3 ** 100, 2 ** 53 + 1, 2 ** 54 + 3, 7 ** 350]
        for top in tops:
            for bottom in tops + [10 ** 308, 2 ** 1074, 2 ** 1075, 3 * 2 ** 1073, 5 ** 460]:
                wanted = struct.unpack(">Q", struct.pack(">d", top / bottom))[0]
                self.assertEqual(rounded((11, 52), 0, top, bottom)[0], wanted)
                self.assertEqual(rounded((11, 52), 1, top, bottom)[0], wanted + 2 ** 63)

    def test_half_numbers(self):
        for top in range(1, 4000, 7):
            for bottom in (1, 3, 1024, 2 ** 20, 2 ** 25, 10 ** 7):
                exact = top / bottom
                wanted = struct.unpack(">H", struct.pack(">e", exact))[0]
                told = rounded((5, 10), 0, *exact.as_integer_ratio())
                self.assertEqual(told[0], wanted)


class TestToldExamples(RoundingCase):
    def test_by_hand(self):
        # The shape (2, 2): heights 0 to 8 by ones, 10, 12, 14, and 16 beyond; four units are 1.
        told = [
            ((0, 2), "even", 0, 0), ((1, 8), "even", 0, 3), ((1, 8), "off", 1, 3),
            ((1, 8), "up", 1, 3),
            ((3, 8), "even", 2, 3), ((3, 8), "in", 1, 3), ((7, 8), "even", 4, 3),
            ((7, 8), "down", 3, 3), ((9, 8), "even", 4, 1), ((9, 8), "off", 5, 1),
            ((9, 4), "even", 8, 1), ((9, 4), "off", 9, 1), ((11, 4), "even", 10, 1),
            ((7, 2), "even", 11, 0), ((15, 4), "even", 12, 5), ((15, 4), "in", 11, 1),
            ((15, 4), "down", 11, 1), ((15, 4), "up", 12, 5), ((149, 40), "even", 11, 1),
            ((4, 1), "even", 12, 5), ((4, 1), "in", 11, 5), ((4, 1), "down", 11, 5),
            ((4, 1), "up", 12, 5), ((400, 1), "off", 12, 5), ((6, 4), "even", 6, 0),
        ]
        for (top, bottom), way, size, flags in told:
            self.assertEqual(rounded((2, 2), 0, top, bottom, way), (size, flags), (top, bottom, way))

    def test_the_other_sign_by_hand(self):
        told = [
            ((1, 8), "up", 16, 3), ((1, 8), "down", 17, 3), ((15, 4), "up", 27, 1),
            ((15, 4), "down", 28, 5), ((4, 1), "up", 27, 5), ((4, 1), "down", 28, 5),
            ((0, 5), "up", 16, 0), ((1, 100), "even", 16, 3),
        ]
        for (top, bottom), way, bits, flags in told:
            self.assertEqual(rounded((2, 2), 1, top, bottom, way), (bits, flags), (top, bottom, way))

    def test_by_name(self):
        told = rounded(way="up", bottom=8, top=1, sign=0, shape=(2, 2))
        self.assertEqual(told, (1, 3))


if __name__ == "__main__":
    unittest.main()
