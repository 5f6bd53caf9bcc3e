"""Points 19 and 20: products, and products with a third one added."""

import itertools
import unittest
from fractions import Fraction

from helper import (
    GREATEST, LEAST, SHAPES, SIGNS, WAYS, PairTests, all_bits, double, doubles, edge_numbers,
    edge_rows, end_row, exact_of, last_size, model_none, model_rounded, model_sum, odd_row, part_of,
    places, product_part, signed_row, undoubled,
)
from nearfold.products import one_step, times
from nearfold.sums import plus


def model_times(shape, one, other, way):
    told = model_none(shape, [one, other])
    if told is not None:
        return told
    part = product_part(shape, one, other)
    if part == "odd":
        return odd_row(shape)
    sign, exact = part
    if exact is None:
        return end_row(shape, sign), 0
    return model_rounded(shape, sign, abs(exact), way)


def model_one_step(shape, one, other, third, way):
    told = model_none(shape, [one, other, third])
    if told is not None:
        return told
    part = product_part(shape, one, other)
    return odd_row(shape) if part == "odd" else model_sum(shape, [part, part_of(shape, third)], way)


def row_of_one(shape, sign=0):
    return signed_row(shape, sign, (2 ** (shape[0] - 1) - 1) * 2 ** shape[1])


class TestTimesByTheModel(PairTests, unittest.TestCase):
    def check(self, shape, one, other):
        for way in WAYS:
            told = times(shape, one, other, way)
            self.assertIs(type(told), tuple)
            self.assertEqual(told, model_times(shape, one, other, way), (shape, one, other, way))


class TestTimesByHand(unittest.TestCase):
    """The shape (2, 2): heights 0 to 8 by ones, 10, 12, 14, and 16 beyond, four units are 1;
    the sign is 16, the end 12, the told none 14."""

    def test_numbers(self):
        told = [
            (4, 4, "even", 4, 0), (4, 11, "even", 11, 0), (2, 6, "even", 3, 0),
            (1, 1, "even", 0, 3), (1, 1, "off", 0, 3), (1, 1, "up", 1, 3), (1, 2, "even", 0, 3),
            (1, 2, "off", 1, 3), (1, 2, "in", 0, 3), (3, 3, "even", 2, 3), (3, 5, "even", 4, 3),
            (3, 5, "in", 3, 3), (3, 5, "down", 3, 3), (3, 5, "up", 4, 3),
            (5, 5, "even", 6, 1), (5, 5, "up", 7, 1), (5, 7, "even", 8, 1), (5, 7, "up", 9, 1),
            (8, 8, "even", 12, 5), (8, 8, "in", 11, 5), (8, 8, "down", 11, 5), (8, 8, "up", 12, 5),
            (9, 6, "even", 12, 5), (9, 6, "in", 11, 1), (8, 7, "even", 11, 0),
            (10, 5, "even", 12, 5), (10, 5, "in", 11, 1), (10, 5, "down", 11, 1),
            (11, 11, "off", 12, 5), (0, 11, "even", 0, 0), (0, 0, "down", 0, 0),
        ]
        for one, other, way, bits, flags in told:
            where = (one, other, way)
            self.assertEqual(times(LEAST, one, other, way), (bits, flags), where)
            self.assertEqual(times(LEAST, other, one, way), (bits, flags), where)
            self.assertEqual(times(LEAST, one ^ 16, other ^ 16, way), (bits, flags), where)

    def test_the_other_sign(self):
        told = [
            (1, 17, "even", 16, 3), (1, 17, "up", 16, 3), (1, 17, "down", 17, 3),
            (5, 21, "up", 22, 1), (5, 21, "down", 23, 1), (8, 24, "up", 27, 5),
            (8, 24, "down", 28, 5), (10, 21, "up", 27, 1), (10, 21, "down", 28, 5),
            (0, 27, "even", 16, 0), (16, 11, "up", 16, 0), (0, 16, "down", 16, 0),
        ]
        for one, other, way, bits, flags in told:
            self.assertEqual(times(LEAST, one, other, way), (bits, flags), (one, other, way))
            self.assertEqual(times(LEAST, other, one, way), (bits, flags), (one, other, way))

    def test_ends(self):
        told = [
            (12, 12, 12, 0), (28, 28, 12, 0), (12, 28, 28, 0), (12, 1, 12, 0), (12, 17, 28, 0),
            (28, 11, 28, 0), (28, 27, 12, 0), (12, 0, 14, 16), (12, 16, 14, 16), (28, 0, 14, 16),
            (28, 16, 14, 16),
        ]
        for one, other, bits, flags in told:
            for way in WAYS:
                self.assertEqual(times(LEAST, one, other, way), (bits, flags), (one, other))
                self.assertEqual(times(LEAST, other, one, way), (bits, flags), (other, one))

    def test_by_name_and_without_a_way(self):
        self.assertEqual(times(way="up", other=5, one=5, shape=LEAST), (7, 1))
        self.assertEqual(times(LEAST, 5, 5), (6, 1))


class TestTimesTables(unittest.TestCase):
    def test_noughts_and_ends_in_all_shapes(self):
        for shape in SHAPES:
            for row in edge_numbers(shape):
                sign, rank, body = places(shape, row)
                for side in SIGNS:
                    nought, end = signed_row(shape, side, 0), end_row(shape, side)
                    crossed = (sign + side) % 2
                    ended = (end_row(shape, crossed), 0) if rank or body else odd_row(shape)
                    for way in WAYS:
                        wanted = (signed_row(shape, crossed, 0), 0)
                        self.assertEqual(times(shape, row, nought, way), wanted)
                        self.assertEqual(times(shape, nought, row, way), wanted)
                        self.assertEqual(times(shape, row, end, way), ended)
                        self.assertEqual(times(shape, end, row, way), ended)

    def test_one_changes_nothing(self):
        for shape in SHAPES:
            for row in edge_numbers(shape):
                for way in WAYS:
                    self.assertEqual(times(shape, row, row_of_one(shape), way), (row, 0))

    def test_far_below_and_far_beyond(self):
        for shape in SHAPES:
            last = last_size(shape)
            for sign in SIGNS:
                outwards = "down" if sign else "up"
                least, great = signed_row(shape, sign, 1), signed_row(shape, sign, last - 1)
                nought, end = signed_row(shape, sign, 0), signed_row(shape, sign, last)
                self.assertEqual(times(shape, least, 1), (nought, 3))
                self.assertEqual(times(shape, least, 1, outwards), (least, 3))
                self.assertEqual(times(shape, great, last - 1), (end, 5))
                self.assertEqual(times(shape, great, last - 1, "in"), (great, 5))
                self.assertEqual(times(shape, great, last - 1, outwards), (end, 5))

    def test_doubles_of_the_machine(self):
        rows = doubles(19, 3000)
        for one, other in zip(rows, rows[1:]):
            wanted = double(undoubled(one) * undoubled(other))
            self.assertEqual(times((11, 52), one, other)[0], wanted)


class TestOneStepByTheModel(unittest.TestCase):
    def check(self, shape, one, other, third):
        for way in WAYS:
            told = one_step(shape, one, other, third, way)
            wanted = model_one_step(shape, one, other, third, way)
            self.assertEqual(told, wanted, (shape, one, other, third, way))

    def test_all_of_the_least_shape(self):
        for one, other, third in itertools.product(all_bits(LEAST), repeat=3):
            self.check(LEAST, one, other, third)

    def test_edges_of_greater_shapes(self):
        for shape in [(3, 4), (5, 10), (2, 60), (11, 52)]:
            rows = edge_rows(shape)[::3]
            for one, other, third in itertools.product(rows, repeat=3):
                self.check(shape, one, other, third)

    def test_edges_of_the_greatest_shape(self):
        rows = edge_rows(GREATEST)[::5]
        for one, other, third in itertools.product(rows, repeat=3):
            self.check(GREATEST, one, other, third)


class TestOneStepByHand(unittest.TestCase):
    """The shape (2, 2), as above."""

    def test_ends(self):
        told = [
            (12, 0, 4, 14, 16), (0, 12, 4, 14, 16), (28, 16, 12, 14, 16), (16, 28, 28, 14, 16),
            (12, 4, 28, 14, 16), (4, 12, 28, 14, 16), (12, 20, 12, 14, 16), (28, 28, 28, 14, 16),
            (12, 12, 28, 14, 16), (12, 28, 12, 14, 16),
            (12, 4, 12, 12, 0), (12, 20, 28, 28, 0), (12, 4, 27, 12, 0), (20, 12, 11, 28, 0),
            (28, 28, 16, 12, 0), (12, 12, 0, 12, 0), (28, 12, 0, 28, 0), (28, 1, 28, 28, 0),
            (4, 4, 12, 12, 0), (4, 4, 28, 28, 0), (0, 16, 12, 12, 0), (11, 11, 28, 28, 0),
            (27, 11, 12, 12, 0),
        ]
        for one, other, third, bits, flags in told:
            for way in WAYS:
                where = (one, other, third)
                self.assertEqual(one_step(LEAST, one, other, third, way), (bits, flags), where)

    def test_nothing(self):
        for way in WAYS:
            unlike = 16 if way == "down" else 0
            told = [
                (0, 0, 0, 0), (0, 16, 16, 16), (16, 0, 16, 16), (16, 16, 0, 0), (0, 11, 0, 0),
                (27, 0, 16, 16), (0, 0, 16, unlike), (0, 16, 0, unlike), (16, 16, 16, unlike),
                (4, 4, 20, unlike), (4, 20, 4, unlike), (20, 20, 20, unlike), (8, 6, 26, unlike),
                (11, 16, 0, unlike), (27, 16, 16, unlike),
            ]
            for one, other, third, bits in told:
                where = (one, other, third, way)
                self.assertEqual(one_step(LEAST, one, other, third, way), (bits, 0), where)

    def test_numbers(self):
        told = [
            (5, 5, 1, "even", 7, 1), (5, 5, 1, "in", 7, 1), (5, 5, 1, "up", 8, 1),
            (1, 1, 1, "even", 1, 3), (1, 1, 1, "up", 2, 3), (1, 2, 1, "even", 2, 3),
            (1, 17, 1, "even", 1, 3), (1, 17, 1, "in", 0, 3), (1, 17, 1, "up", 1, 3),
            (1, 17, 17, "even", 17, 3), (1, 17, 17, "down", 18, 3),
            (8, 8, 24, "even", 8, 0), (8, 8, 17, "even", 12, 5), (8, 8, 18, "even", 11, 0),
            (8, 8, 0, "in", 11, 5), (11, 11, 27, "in", 11, 5),
            (11, 11, 27, "even", 12, 5), (27, 11, 11, "even", 28, 5), (27, 11, 11, "up", 27, 5),
            (3, 3, 17, "even", 1, 3), (3, 3, 17, "up", 2, 3), (0, 5, 7, "even", 7, 0),
            (0, 21, 23, "down", 23, 0),
        ]
        for one, other, third, way, bits, flags in told:
            where = (one, other, third, way)
            self.assertEqual(one_step(LEAST, one, other, third, way), (bits, flags), where)
            self.assertEqual(one_step(LEAST, other, one, third, way), (bits, flags), where)

    def test_by_name_and_without_a_way(self):
        told = one_step(way="up", third=1, other=5, one=5, shape=LEAST)
        self.assertEqual(told, (8, 1))
        self.assertEqual(one_step(LEAST, 5, 5, 1), (7, 1))


class TestRoundedOnce(unittest.TestCase):
    def test_what_two_roundings_would_lose(self):
        one = row_of_one((11, 52))
        # (1 + u) * (1 - u) - 1 is just -u * u.
        told = one_step((11, 52), one + 1, one - 2, row_of_one((11, 52), 1))
        self.assertEqual(told, (double(-2.0 ** -104), 0))
        # The product lies just amid two, and a third far below tells the side.
        shape = (11, 60)
        one = row_of_one(shape)
        half = one + 2 ** 59
        least = signed_row(shape, 0, 1)
        for third, bits in ((0, half + 2), (least, half + 2), (2 ** 71 + least, half + 1)):
            self.assertEqual(one_step(shape, one + 1, half, third), (bits, 1))

    def test_not_always_plus_of_times(self):
        unlike = 0
        for one, other, third in itertools.product(edge_numbers((3, 4)), repeat=3):
            product, ahead = times((3, 4), one, other)
            twice = plus((3, 4), product, third)[0]
            once = one_step((3, 4), one, other, third)[0]
            unlike += once != twice
            if ahead == 0:
                self.assertEqual(once, twice)
        self.assertGreater(unlike, 0)

    def test_times_and_plus_are_one_steps(self):
        for shape in [LEAST, (3, 4), (5, 10), GREATEST]:
            one = row_of_one(shape)
            for first, second in itertools.product(edge_numbers(shape), repeat=2):
                for way in WAYS:
                    told = one_step(shape, first, one, second, way)
                    self.assertEqual(told, plus(shape, first, second, way))
                    product = exact_of(shape, first) * exact_of(shape, second)
                    if product != 0:
                        told = one_step(shape, first, second, 0, way)
                        self.assertEqual(told, times(shape, first, second, way))

    def test_thirds_and_tenths(self):
        shape = (11, 52)
        tenth, ten = double(0.1), double(10.0)
        exact = Fraction(0.1) * 10 - 1
        told = one_step(shape, tenth, ten, double(-1.0))
        self.assertEqual(told, (double(float(exact)), 0))
        self.assertEqual(times(shape, tenth, ten), (double(1.0), 1))


if __name__ == "__main__":
    unittest.main()
