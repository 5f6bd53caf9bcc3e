"""Points 36 to 38: totals, dots and splits."""

import itertools
import random
import unittest

from helper import (
    GREATEST, LEAST, SHAPES, SIGNS, WAYS, PairTests, all_bits, double, edge_numbers, edge_rows,
    exact_of, kind_word, last_size, model_none, model_rounded, model_sum, odd_row, part_of,
    product_part, signed_row, undoubled, written,
)
from nearfold.errors import FoldError, NoNumber
from nearfold.products import times
from nearfold.sums import plus
from nearfold.totals import dots, split, total


def model_total(shape, rows, way):
    told = model_none(shape, rows)
    return told or model_sum(shape, [part_of(shape, row) for row in rows], way)


def model_dots(shape, pairs, way):
    told = model_none(shape, [row for pair in pairs for row in pair])
    if told:
        return told
    parts = [product_part(shape, one, other) for one, other in pairs]
    return odd_row(shape) if "odd" in parts else model_sum(shape, parts, way)


def lists_of(rows, seed, lists, longest):
    """Lists of rows of all lengths, always the same ones for a seed."""
    source = random.Random(seed)
    return [[rows[source.getrandbits(30) % len(rows)] for place in range(turn % (longest + 1))]
            for turn in range(lists)]


def paired(rows):
    return list(zip(rows[::2], rows[1::2]))


def finite(shape):
    """The edge rows without nones: numbers and ends."""
    return [row for row in edge_rows(shape) if kind_word(shape, row) not in ("loud", "still")]


class ListTests(unittest.TestCase):
    def held_against(self, model, deed, shape, things):
        """What a deed tells of a list, in every way, and that the list stays as it is."""
        kept = list(things)
        for way in WAYS:
            told = deed(shape, things, way)
            self.assertEqual(things, kept)
            self.assertIs(type(told), tuple)
            self.assertEqual(told, model(shape, things, way), (shape, things, way))


class TestTotalByTheModel(ListTests):
    def check(self, shape, rows):
        self.held_against(model_total, total, shape, rows)

    def test_all_threes_of_the_least_shape(self):
        rows = [0, 16, 1, 17, 3, 20, 7, 23, 9, 26, 11, 27, 12, 28, 13, 14, 15, 29, 30]
        for three in itertools.product(rows, repeat=3):
            self.check(LEAST, list(three))

    def test_many_lists(self):
        for shape in SHAPES:
            for rows in lists_of(edge_numbers(shape), 36, 60, 24):
                self.check(shape, rows)
            for rows in lists_of(finite(shape), 37, 60, 5):
                self.check(shape, rows)
            for rows in lists_of(edge_rows(shape), 38, 60, 4):
                self.check(shape, rows)

    def test_long_lists(self):
        for shape in [LEAST, (5, 10), GREATEST]:
            rows = lists_of(edge_numbers(shape), 39, 301, 300)[300]
            self.assertEqual(len(rows), 300)
            self.check(shape, rows)
            self.check(shape, [1] * 300)
            self.check(shape, [last_size(shape) - 1] * 150 + [signed_row(shape, 1, last_size(shape) - 1)] * 150)

    def test_any_order(self):
        for shape in SHAPES:
            for rows in lists_of(edge_numbers(shape), 40, 20, 8):
                for way in WAYS:
                    wanted = total(shape, rows, way)
                    self.assertEqual(total(shape, rows[::-1], way), wanted)
                    self.assertEqual(total(shape, sorted(rows), way), wanted)


class TestTotalOfTwo(PairTests, unittest.TestCase):
    def check(self, shape, one, other):
        for way in WAYS:
            self.assertEqual(total(shape, [one, other], way), plus(shape, one, other, way))


class TestTotalByHand(unittest.TestCase):
    """The shape (2, 2): sizes 0 to 8 are as many units, then 10, 12, 14; the end is 12, the
    sign 16, the told none 14."""

    def test_the_empty_list(self):
        for shape in SHAPES:
            for way in WAYS:
                self.assertEqual(total(shape, [], way), (0, 0))

    def test_one_row(self):
        for shape in SHAPES:
            for row in finite(shape):
                for way in WAYS:
                    self.assertEqual(total(shape, [row], way), (row, 0))

    def test_noughts(self):
        told = [
            ([0], 0, 0), ([16], 16, 16), ([0, 0, 0], 0, 0), ([16, 16, 16], 16, 16), ([16, 0, 16], 0, 16),
            ([0, 16], 0, 16), ([1, 17], 0, 16), ([17, 1, 16], 0, 16), ([3, 17, 18], 0, 16),
            ([11, 27, 0], 0, 16), ([16, 16, 11, 27], 0, 16), ([9, 27, 4], 0, 16),
        ]
        for rows, others, down in told:
            for way in WAYS:
                wanted = down if way == "down" else others
                self.assertEqual(total(LEAST, rows, way), (wanted, 0), (rows, way))

    def test_ends(self):
        told = [
            ([12], 12, 0), ([12, 12, 12], 12, 0), ([28, 28], 28, 0), ([1, 28, 11, 11], 28, 0),
            ([27, 27, 12], 12, 0), ([12, 28], 14, 16), ([28, 0, 12], 14, 16), ([12, 12, 28, 1], 14, 16),
            ([0, 12, 16], 12, 0),
        ]
        for rows, bits, flags in told:
            for way in WAYS:
                self.assertEqual(total(LEAST, rows, way), (bits, flags))

    def test_nones(self):
        told = [
            ([13], 15, 16), ([29], 31, 16), ([14], 14, 0), ([31, 13], 31, 16), ([13, 31], 15, 16),
            ([1, 30, 15], 30, 0), ([12, 28, 15], 15, 0), ([12, 28, 15, 29], 15, 16), ([0, 0, 31], 31, 0),
            ([14, 15, 30, 31], 14, 0), ([14, 15, 30, 29], 14, 16),
        ]
        for rows, bits, flags in told:
            for way in WAYS:
                self.assertEqual(total(LEAST, rows, way), (bits, flags))

    def test_rounded_once(self):
        # 8 + 1 + 1 units is 10, though 8 + 1 is rounded to 8.
        told = [
            ([8, 1, 1], "even", 9, 0), ([8, 1, 1, 1], "even", 10, 1), ([8, 1, 1, 1], "in", 9, 1),
            ([11, 11, 27, 27, 1], "even", 1, 0), ([11, 1, 17], "even", 11, 0), ([11, 1], "even", 12, 5),
            ([11, 11, 27], "up", 11, 0), ([27, 27, 27, 11, 11], "up", 27, 0), ([11, 2], "in", 11, 5),
            ([8, 1], "off", 9, 1), ([24, 17], "down", 25, 1), ([24, 17], "up", 24, 1),
        ]
        for rows, way, bits, flags in told:
            self.assertEqual(total(LEAST, rows, way), (bits, flags), (rows, way))

    def test_what_a_chain_would_miss(self):
        for shape in SHAPES:
            if shape[0] == 2:
                continue
            great = last_size(shape) - 1
            less = signed_row(shape, 1, great)
            for way in WAYS:
                self.assertEqual(total(shape, [great, 1, less], way), (1, 0))
                self.assertEqual(total(shape, [great, great, 1, less, less], way), (1, 0))
                self.assertEqual(total(shape, [less, great, great, less], way),
                                 (signed_row(shape, int(way == "down"), 0), 0))
            bits = plus(shape, plus(shape, great, 1)[0], less)[0]
            self.assertEqual(bits, 0)

    def test_many_small_ones_beside_a_great_one(self):
        one = double(1.0)
        tiny = double(2.0 ** -55)
        self.assertEqual(total((11, 52), [one] + [tiny] * 3), (one, 1))
        self.assertEqual(total((11, 52), [one] + [tiny] * 4), (one, 1))
        self.assertEqual(total((11, 52), [one] + [tiny] * 5), (one + 1, 1))
        self.assertEqual(total((11, 52), [one] + [tiny] * 8), (one + 1, 0))
        self.assertEqual(total((11, 52), [double(0.1)] * 10), (one, 1))

    def test_by_name_and_without_a_way(self):
        self.assertEqual(total(way="up", rows=[8, 1], shape=LEAST), (9, 1))
        self.assertEqual(total(LEAST, [8, 1]), (8, 1))


class TestDotsByTheModel(ListTests):
    def check(self, shape, pairs):
        self.held_against(model_dots, dots, shape, pairs)

    def test_two_pairs_of_the_least_shape(self):
        rows = [0, 16, 1, 21, 11, 27, 12, 28, 13, 31]
        for four in itertools.product(rows, repeat=4):
            self.check(LEAST, paired(four))

    def test_many_lists(self):
        for shape in SHAPES:
            for rows in lists_of(edge_numbers(shape), 41, 60, 20):
                self.check(shape, paired(rows))
            for rows in lists_of(finite(shape), 42, 60, 9):
                self.check(shape, paired(rows))
            for rows in lists_of(edge_rows(shape), 43, 60, 6):
                self.check(shape, paired(rows))

    def test_long_lists(self):
        rows = lists_of(edge_numbers(GREATEST), 44, 601, 600)[600]
        self.assertEqual(len(paired(rows)), 300)
        self.check(GREATEST, paired(rows))


class TestDotsOfOne(PairTests, unittest.TestCase):
    def check(self, shape, one, other):
        for way in WAYS:
            self.assertEqual(dots(shape, [(one, other)], way), times(shape, one, other, way))


class TestDotsByHand(unittest.TestCase):
    """The shape (2, 2) again: 4 is 1, 8 is 2, 10 is 3, 11 is 3.5."""

    def test_the_empty_list(self):
        for shape in SHAPES:
            for way in WAYS:
                self.assertEqual(dots(shape, [], way), (0, 0))

    def test_sums_of_products(self):
        told = [
            ([(4, 4), (4, 4)], "even", 8, 0), ([(8, 10), (10, 24)], "even", 0, 0),
            ([(8, 10), (10, 24)], "down", 16, 0), ([(11, 11), (27, 11), (1, 4)], "even", 1, 0),
            ([(1, 1)], "even", 0, 3), ([(1, 1), (1, 1)], "even", 0, 3), ([(1, 1)] * 4, "even", 1, 0),
            ([(1, 1)] * 3, "even", 1, 3), ([(1, 1)] * 3, "in", 0, 3), ([(1, 17)] * 3, "down", 17, 3),
            ([(11, 11)], "in", 11, 5), ([(11, 11), (27, 10)], "even", 7, 0), ([(10, 10), (24, 8)], "even", 12, 5),
        ]
        for pairs, way, bits, flags in told:
            self.assertEqual(dots(LEAST, pairs, way), (bits, flags), (pairs, way))

    def test_noughts_with_their_signs(self):
        told = [
            ([(0, 0)], 0, 0), ([(16, 0)], 16, 16), ([(16, 16)], 0, 0), ([(17, 0)], 16, 16), ([(0, 27)], 16, 16),
            ([(17, 0), (0, 17)], 16, 16), ([(1, 0), (17, 0)], 0, 16), ([(0, 5), (16, 21)], 0, 0),
            ([(1, 1), (1, 17)], 0, 16), ([(16, 1), (16, 3), (1, 16)], 16, 16), ([(4, 4), (20, 4), (16, 4)], 0, 16),
        ]
        for pairs, others, down in told:
            for way in WAYS:
                wanted = down if way == "down" else others
                self.assertEqual(dots(LEAST, pairs, way), (wanted, 0), (pairs, way))

    def test_ends(self):
        told = [
            ([(12, 1)], 12, 0), ([(12, 17)], 28, 0), ([(28, 28)], 12, 0), ([(12, 0)], 14, 16),
            ([(16, 28)], 14, 16), ([(12, 1), (12, 17)], 14, 16), ([(12, 1), (28, 17), (1, 1)], 12, 0),
            ([(1, 1), (11, 28)], 28, 0), ([(12, 12), (28, 12)], 14, 16), ([(12, 1), (0, 12)], 14, 16),
            ([(0, 1), (12, 4)], 12, 0), ([(0, 0), (28, 4), (27, 27)], 28, 0),
        ]
        for pairs, bits, flags in told:
            for way in WAYS:
                self.assertEqual(dots(LEAST, pairs, way), (bits, flags), (pairs, way))

    def test_nones_pair_by_pair(self):
        told = [
            ([(1, 30), (15, 1)], 30, 0), ([(1, 1), (15, 31)], 15, 0), ([(30, 15)], 30, 0),
            ([(13, 14)], 15, 16), ([(14, 13)], 14, 16), ([(12, 0), (1, 15)], 15, 0),
            ([(12, 0), (31, 29)], 31, 16), ([(12, 1), (28, 1), (0, 14)], 14, 0),
            ([(1, 29), (14, 14)], 31, 16),
        ]
        for pairs, bits, flags in told:
            for way in WAYS:
                self.assertEqual(dots(LEAST, pairs, way), (bits, flags), (pairs, way))

    def test_rounded_once(self):
        # (1 + d) * (1 + d) - (1 + 2 d) is d * d: times loses it.
        one = double(1.0)
        near, twice = one + 1, one + 2
        minus_one = double(-1.0)
        told = dots((11, 52), [(near, near), (twice, minus_one)])
        self.assertEqual(told, (double(2.0 ** -104), 0))
        lost = times((11, 52), near, near)[0]
        self.assertEqual(plus((11, 52), lost, times((11, 52), twice, minus_one)[0])[0], 0)

    def test_products_beyond_the_shape_cancel(self):
        for shape in SHAPES:
            great, less = last_size(shape) - 1, signed_row(shape, 1, last_size(shape) - 1)
            one = (2 ** (shape[0] - 1) - 1) * 2 ** shape[1]
            self.assertEqual(dots(shape, [(great, great), (one, 1), (great, less)]), (1, 0))

    def test_by_name_and_without_a_way(self):
        self.assertEqual(dots(way="up", pairs=[(1, 1)], shape=LEAST), (1, 3))
        self.assertEqual(dots(LEAST, [(1, 1)]), (0, 3))


class TestSplit(PairTests, unittest.TestCase):
    def check(self, shape, one, other):
        parts = [part_of(shape, row)[1] if kind_word(shape, row) not in ("loud", "still") else None
                 for row in (one, other)]
        if None in parts:
            return self.refuse(shape, one, other)
        exact = sum(parts)
        sign = int(exact < 0)
        bits = plus(shape, one, other, "even")[0]
        if exact:
            self.assertEqual(bits, model_rounded(shape, sign, abs(exact), "even")[0])
        if kind_word(shape, bits) == "end":
            return self.refuse(shape, one, other)
        told = split(shape, one, other)
        self.assertIs(type(told), tuple)
        self.assertEqual(told[0], bits)
        self.assertIn(kind_word(shape, told[1]), ("nought", "small", "plain"))
        self.assertEqual(exact_of(shape, bits) + exact_of(shape, told[1]), exact)
        if exact_of(shape, told[1]) == 0:
            self.assertEqual(told[1], 0)
        return None

    def refuse(self, shape, one, other):
        with self.assertRaises(NoNumber) as caught:
            split(shape, one, other)
        self.assertIsInstance(caught.exception, FoldError)

    def test_by_hand(self):
        told = [
            (8, 1, 8, 1), (8, 3, 10, 17), (1, 1, 2, 0), (0, 0, 0, 0), (16, 16, 16, 0), (0, 16, 0, 0),
            (1, 17, 0, 0), (11, 17, 10, 1), (27, 1, 26, 17), (24, 17, 24, 17), (9, 4, 11, 0),
            (7, 4, 10, 17),
        ]
        for one, other, bits, left in told:
            self.assertEqual(split(LEAST, one, other), (bits, left), (one, other))
        self.assertEqual(split(other=1, one=8, shape=LEAST), (8, 1))

    def test_doubles(self):
        bits, left = split((11, 52), double(0.1), double(0.2))
        self.assertEqual(undoubled(bits), 0.1 + 0.2)
        exact = sum(exact_of((11, 52), double(value)) for value in (0.1, 0.2))
        self.assertEqual(exact - exact_of((11, 52), bits), exact_of((11, 52), left))
        self.assertEqual(split((11, 52), double(1.0), double(1e-300)), (double(1.0), double(1e-300)))
        self.assertEqual(split((11, 52), double(1e-300), double(-1.0)), (double(-1.0), double(1e-300)))

    def test_plus_is_an_end(self):
        for shape in SHAPES:
            great = last_size(shape) - 1
            for sign in SIGNS:
                row = signed_row(shape, sign, great)
                self.refuse(shape, row, row)
        # Half a step beyond the greatest number is the end, just below it is not.
        self.refuse(LEAST, 11, 1)
        step = written((3, 4), 0, 2, 0)
        self.assertEqual(exact_of((3, 4), step), exact_of((3, 4), 0x6f) - exact_of((3, 4), 0x6e))
        self.refuse((3, 4), 0x6f, step - 16)
        self.assertEqual(split((3, 4), 0x6f, step - 17), (0x6f, step - 17))

    def test_all_bits_with_a_none_or_an_end(self):
        for row in all_bits(LEAST):
            for other in [12, 28, 13, 14, 15, 29]:
                self.refuse(LEAST, row, other)
                self.refuse(LEAST, other, row)


if __name__ == "__main__":
    unittest.main()
