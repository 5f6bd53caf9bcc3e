"""Points 7 to 12: the bits of a shape."""

import math
import struct
import unittest

from helper import (
    GREATEST, LEAST, NO_WHOLES, SHAPES, SMALL_SHAPES, all_bits, end_row, places, row_count, written,
)
from nearfold.bits import (
    end_of, greatest_of, is_none, is_number, joined, kind_of, least_of, mark_of, next_down,
    next_up, none_of, nought_of, parts_of, size_of, stilled, told_none, turned,
)
from nearfold.errors import NoBits, NoNumber, NoParts

SIGNS = (0, 1)


def kind_edges(shape):
    """For each kind its first and last body at the ranks where it is found."""
    e, m = shape
    top, full, half = 2 ** e - 1, 2 ** m - 1, 2 ** (m - 1)
    return [
        (0, 0, "nought"),
        (0, 1, "small"), (0, full, "small"),
        (1, 0, "plain"), (1, 1, "plain"), (top - 1, 0, "plain"), (top - 1, full, "plain"),
        (top, 0, "end"),
        (top, 1, "loud"), (top, half - 1, "loud"),
        (top, half, "still"), (top, half + 1, "still"), (top, full, "still"),
    ]


def rows_with_kinds(shape):
    return [
        (written(shape, sign, rank, body), kind)
        for rank, body, kind in kind_edges(shape) for sign in SIGNS
    ]


class TestParts(unittest.TestCase):
    def test_there_and_back_at_the_edges(self):
        for shape in SHAPES:
            e, m = shape
            for sign in SIGNS:
                for rank in (0, 1, 2 ** e - 2, 2 ** e - 1):
                    for body in (0, 1, 2 ** m - 1):
                        bits = joined(shape, sign, rank, body)
                        self.assertEqual(bits, written(shape, sign, rank, body))
                        parts = parts_of(shape, bits)
                        self.assertIs(type(parts), tuple)
                        self.assertEqual(parts, (sign, rank, body))
                        self.assertEqual(size_of(shape, bits), rank * 2 ** m + body)

    def test_all_bits_of_small_shapes(self):
        for shape in SMALL_SHAPES:
            for bits in all_bits(shape):
                self.assertEqual(parts_of(shape, bits), places(shape, bits))
                self.assertEqual(joined(shape, *parts_of(shape, bits)), bits)
                self.assertEqual(size_of(shape, bits), bits % (row_count(shape) // 2))

    def test_told_examples(self):
        self.assertEqual(parts_of((3, 4), 0b1_101_0110), (1, 5, 6))
        self.assertEqual(joined((3, 4), 1, 5, 6), 0b1_101_0110)
        self.assertEqual(size_of((3, 4), 0b1_101_0110), 0b101_0110)

    def test_no_bits_beyond(self):
        for shape in SHAPES:
            beyond = row_count(shape)
            self.assertEqual(parts_of(shape, beyond - 1)[0], 1)
            for bits in (beyond, beyond + 1, 2 * beyond, 10 ** 900, -1, -2, -beyond, -10 ** 900):
                with self.assertRaises(NoBits, msg=(shape, bits)):
                    parts_of(shape, bits)

    def test_no_bits_of_other_things(self):
        for thing in NO_WHOLES:
            for shape in (LEAST, GREATEST):
                with self.assertRaises(NoBits, msg=thing):
                    parts_of(shape, thing)

    def test_no_parts_beyond(self):
        for shape in SHAPES:
            e, m = shape
            for sign in (-1, 2, 3, 10 ** 900, -10 ** 900):
                with self.assertRaises(NoParts):
                    joined(shape, sign, 1, 1)
            for rank in (-1, 2 ** e, 2 ** e + 1, 10 ** 900, -10 ** 900):
                with self.assertRaises(NoParts):
                    joined(shape, 1, rank, 1)
            for body in (-1, 2 ** m, 2 ** m + 1, 10 ** 900, -10 ** 900):
                with self.assertRaises(NoParts):
                    joined(shape, 1, 1, body)

    def test_no_parts_of_other_things(self):
        for thing in NO_WHOLES:
            for parts in ((thing, 1, 1), (1, thing, 1), (1, 1, thing)):
                with self.assertRaises(NoParts, msg=parts):
                    joined((3, 4), *parts)

    def test_what_is_refused_is_not_changed(self):
        things = [1, 2]
        with self.assertRaises(NoBits):
            parts_of((3, 4), things)
        with self.assertRaises(NoParts):
            joined((3, 4), 0, things, things)
        self.assertEqual(things, [1, 2])


class TestKinds(unittest.TestCase):
    def test_where_one_kind_ends_and_the_next_begins(self):
        for shape in SHAPES:
            for bits, kind in rows_with_kinds(shape):
                self.assertEqual(kind_of(shape, bits), kind, (shape, bits))

    def test_counts_of_kinds_in_small_shapes(self):
        for shape in SMALL_SHAPES:
            e, m = shape
            kinds = [kind_of(shape, bits) for bits in all_bits(shape)]
            self.assertEqual(kinds.count("nought"), 2)
            self.assertEqual(kinds.count("small"), 2 * (2 ** m - 1))
            self.assertEqual(kinds.count("plain"), 2 * (2 ** e - 2) * 2 ** m)
            self.assertEqual(kinds.count("end"), 2)
            self.assertEqual(kinds.count("loud"), 2 * (2 ** (m - 1) - 1))
            self.assertEqual(kinds.count("still"), 2 * 2 ** (m - 1))

    def test_numbers_and_nones(self):
        for shape in SHAPES:
            for bits, kind in rows_with_kinds(shape):
                self.assertIs(is_number(shape, bits), kind in ("nought", "small", "plain"))
                self.assertIs(is_none(shape, bits), kind in ("loud", "still"))


class TestNones(unittest.TestCase):
    def test_still_ones(self):
        for shape in SHAPES:
            e, m = shape
            for sign in SIGNS:
                for mark in (0, 1, 2 ** (m - 1) - 1):
                    wanted = written(shape, sign, 2 ** e - 1, 2 ** (m - 1) + mark)
                    self.assertEqual(none_of(shape, sign, mark), wanted)
                    self.assertEqual(none_of(shape, sign, mark, False), wanted)
                    self.assertEqual(none_of(shape, sign, mark, loud=False), wanted)
                    self.assertEqual(kind_of(shape, wanted), "still")
                    self.assertEqual(mark_of(shape, wanted), mark)

    def test_loud_ones(self):
        for shape in SHAPES:
            e, m = shape
            for sign in SIGNS:
                for mark in (1, 2 ** (m - 1) - 1):
                    wanted = written(shape, sign, 2 ** e - 1, mark)
                    self.assertEqual(none_of(shape, sign, mark, True), wanted)
                    self.assertEqual(none_of(shape, sign, mark, loud=True), wanted)
                    self.assertEqual(kind_of(shape, wanted), "loud")
                    self.assertEqual(mark_of(shape, wanted), mark)

    def test_all_nones_of_small_shapes_there_and_back(self):
        for shape in SMALL_SHAPES:
            for bits in all_bits(shape):
                kind = kind_of(shape, bits)
                if kind in ("loud", "still"):
                    sign = places(shape, bits)[0]
                    again = none_of(shape, sign, mark_of(shape, bits), kind == "loud")
                    self.assertEqual(again, bits)

    def test_no_loud_one_of_mark_0(self):
        for shape in SHAPES:
            for sign in SIGNS:
                with self.assertRaises(NoParts):
                    none_of(shape, sign, 0, True)
                with self.assertRaises(NoParts):
                    none_of(shape, sign, 0, loud=True)

    def test_no_such_mark(self):
        for shape in SHAPES:
            beyond = 2 ** (shape[1] - 1)
            for mark in (beyond, beyond + 1, 2 * beyond, 10 ** 900, -1, -beyond, -10 ** 900):
                for loud in (False, True):
                    with self.assertRaises(NoParts, msg=(shape, mark)):
                        none_of(shape, 0, mark, loud)

    def test_no_such_sign(self):
        for shape in SHAPES:
            for sign in (-1, 2, 3, 10 ** 900, -10 ** 900):
                for loud in (False, True):
                    with self.assertRaises(NoParts):
                        none_of(shape, sign, 1, loud)

    def test_no_parts_of_other_things(self):
        for thing in NO_WHOLES:
            for loud in (False, True):
                with self.assertRaises(NoParts, msg=thing):
                    none_of((3, 4), thing, 1, loud)
                with self.assertRaises(NoParts, msg=thing):
                    none_of((3, 4), 0, thing, loud)

    def test_the_told_none(self):
        self.assertEqual(told_none((3, 4)), 0b0_111_1000)
        for shape in SHAPES:
            e, m = shape
            self.assertEqual(told_none(shape), written(shape, 0, 2 ** e - 1, 2 ** (m - 1)))

    def test_stilled_of_all_kinds(self):
        for shape in SHAPES:
            e, m = shape
            for bits, kind in rows_with_kinds(shape):
                wanted = bits
                if kind == "loud":
                    sign, rank, body = places(shape, bits)
                    wanted = written(shape, sign, rank, body + 2 ** (m - 1))
                self.assertEqual(stilled(shape, bits), wanted, (shape, bits))

    def test_stilled_of_all_bits_of_small_shapes(self):
        for shape in SMALL_SHAPES:
            for bits in all_bits(shape):
                told = stilled(shape, bits)
                if kind_of(shape, bits) == "loud":
                    self.assertEqual(kind_of(shape, told), "still")
                    self.assertEqual(mark_of(shape, told), mark_of(shape, bits))
                    self.assertEqual(places(shape, told)[0], places(shape, bits)[0])
                else:
                    self.assertEqual(told, bits)


class TestToldOnes(unittest.TestCase):
    def test_both_signs(self):
        for shape in SHAPES:
            e, m = shape
            for sign in SIGNS:
                self.assertEqual(nought_of(shape, sign), written(shape, sign, 0, 0))
                self.assertEqual(least_of(shape, sign), written(shape, sign, 0, 1))
                self.assertEqual(
                    greatest_of(shape, sign), written(shape, sign, 2 ** e - 2, 2 ** m - 1))
                self.assertEqual(end_of(shape, sign), written(shape, sign, 2 ** e - 1, 0))

    def test_told_examples(self):
        self.assertEqual(nought_of((3, 4), 1), 0b1_000_0000)
        self.assertEqual(least_of((3, 4), 1), 0b1_000_0001)
        self.assertEqual(greatest_of((3, 4), 0), 0b0_110_1111)
        self.assertEqual(end_of((3, 4), 0), 0b0_111_0000)

    def test_turned_of_every_kind_twice(self):
        for shape in SHAPES:
            for rank, body, kind in kind_edges(shape):
                one = written(shape, 0, rank, body)
                other = written(shape, 1, rank, body)
                self.assertEqual(turned(shape, one), other)
                self.assertEqual(turned(shape, other), one)
                self.assertEqual(turned(shape, turned(shape, one)), one)


def ladder(shape):
    """All rungs from below, each nought left out, with None in their place."""
    end = end_row(shape, 0)
    below = [written(shape, 1, *divmod(size, 2 ** shape[1])) for size in range(end, 0, -1)]
    return below + [None] + list(range(1, end + 1))


class TestLadder(unittest.TestCase):
    def test_up_the_whole_ladder(self):
        for shape in SMALL_SHAPES:
            rungs = ladder(shape)
            noughts = [written(shape, sign, 0, 0) for sign in SIGNS]
            for low, high in zip(rungs, rungs[1:]):
                if low is None:
                    self.assertEqual([next_up(shape, bits) for bits in noughts], [high, high])
                elif high is None:
                    self.assertEqual(next_up(shape, low), noughts[1])
                else:
                    self.assertEqual(next_up(shape, low), high)
            self.assertEqual(next_up(shape, rungs[-1]), rungs[-1])

    def test_down_the_whole_ladder(self):
        for shape in SMALL_SHAPES:
            rungs = ladder(shape)
            noughts = [written(shape, sign, 0, 0) for sign in SIGNS]
            for low, high in zip(rungs, rungs[1:]):
                if high is None:
                    self.assertEqual([next_down(shape, bits) for bits in noughts], [low, low])
                elif low is None:
                    self.assertEqual(next_down(shape, high), noughts[0])
                else:
                    self.assertEqual(next_down(shape, high), low)
            self.assertEqual(next_down(shape, rungs[0]), rungs[0])

    def test_told_edges_of_all_shapes(self):
        for shape in SHAPES:
            nought, least, greatest, end = [
                [made(shape, sign) for sign in SIGNS]
                for made in (nought_of, least_of, greatest_of, end_of)
            ]
            self.assertEqual([next_up(shape, bits) for bits in nought], [least[0], least[0]])
            self.assertEqual([next_down(shape, bits) for bits in nought], [least[1], least[1]])
            self.assertEqual(next_up(shape, least[1]), nought[1])
            self.assertEqual(next_down(shape, least[0]), nought[0])
            self.assertEqual(next_up(shape, least[0]), least[0] + 1)
            self.assertEqual(next_down(shape, least[1]), least[1] + 1)
            self.assertEqual(next_up(shape, greatest[0]), end[0])
            self.assertEqual(next_down(shape, greatest[1]), end[1])
            self.assertEqual(next_up(shape, greatest[1]), greatest[1] - 1)
            self.assertEqual(next_down(shape, greatest[0]), greatest[0] - 1)
            self.assertEqual(next_up(shape, end[0]), end[0])
            self.assertEqual(next_down(shape, end[1]), end[1])
            self.assertEqual(next_up(shape, end[1]), greatest[1])
            self.assertEqual(next_down(shape, end[0]), greatest[0])

    def test_against_the_machine_s_own_numbers(self):
        # The shape (11, 52) is that of Python's numbers with a point.
        for number in (1.0, -1.0, 0.1, -2.5, 2.0 ** -1022, -(2.0 ** -1022), 1e308, 2.0 ** 52):
            bits = struct.unpack(">Q", struct.pack(">d", number))[0]
            above = struct.pack(">d", math.nextafter(number, math.inf))
            below = struct.pack(">d", math.nextafter(number, -math.inf))
            self.assertEqual(next_up((11, 52), bits), struct.unpack(">Q", above)[0])
            self.assertEqual(next_down((11, 52), bits), struct.unpack(">Q", below)[0])

    def test_nones_are_refused(self):
        for shape in SHAPES:
            for bits, kind in rows_with_kinds(shape):
                if kind in ("loud", "still"):
                    with self.assertRaises(NoNumber):
                        next_up(shape, bits)
                    with self.assertRaises(NoNumber):
                        next_down(shape, bits)


if __name__ == "__main__":
    unittest.main()
