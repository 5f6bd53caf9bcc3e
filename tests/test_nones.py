"""Point 17: nones in a deed, and what is told where it is odd."""

import itertools
import unittest

from helper import (
    GREATEST, LEAST, SHAPES, SMALL_SHAPES, WAYS, all_bits, edge_rows, end_row, kind_word,
    model_none, odd_row, signed_row, written,
)
from nearfold.nones import none_among, odd_answer
from nearfold.orders import higher, lower
from nearfold.products import one_step, times
from nearfold.quotients import quotient, rests
from nearfold.roots import root
from nearfold.sums import minus, plus

TWO_WAYED = {"plus": plus, "minus": minus, "times": times, "quotient": quotient}
# In the shape (2, 2) with sign 0: the end is 12, one loud none 13, two still ones 14 and 15.
LOUD, STILL, MARKED = 13, 14, 15
TURNED_LOUD, TURNED_STILL, TURNED_MARKED = 29, 30, 31


def is_none_row(shape, row):
    return kind_word(shape, row) in ("loud", "still")


def none_rows(shape):
    return [row for row in edge_rows(shape) if is_none_row(shape, row)]


def partners(shape):
    """One row of each kind and sign."""
    sizes = {}
    for row in edge_rows(shape):
        sizes.setdefault((kind_word(shape, row), row >> sum(shape)), row)
    return list(sizes.values())


class TestNoneAmong(unittest.TestCase):
    def test_by_hand(self):
        told = [
            ([], None), ([0], None), ([0, 12, 28, 16, 11], None),
            ([STILL], (14, 0)), ([MARKED], (15, 0)), ([LOUD], (15, 16)),
            ([TURNED_STILL], (30, 0)), ([TURNED_MARKED], (31, 0)), ([TURNED_LOUD], (31, 16)),
            ([STILL, LOUD], (14, 16)), ([LOUD, STILL], (15, 16)),
            ([MARKED, TURNED_STILL], (15, 0)), ([TURNED_STILL, MARKED], (30, 0)),
            ([0, 12, STILL, 3, TURNED_LOUD, 28], (14, 16)),
            ([0, 12, TURNED_LOUD, 3, STILL, 28], (31, 16)),
            ([STILL, STILL, STILL, LOUD], (14, 16)), ([1, 2, 3, 4, TURNED_MARKED], (31, 0)),
        ]
        for rows, wanted in told:
            self.assertEqual(none_among(LEAST, rows), wanted, rows)

    def test_each_row_alone(self):
        for shape in SMALL_SHAPES:
            for row in all_bits(shape):
                self.assertEqual(none_among(shape, [row]), model_none(shape, [row]))

    def test_three_of_each_kind(self):
        for shape in (LEAST, (3, 4), (8, 23), GREATEST):
            for rows in itertools.product(partners(shape), repeat=3):
                self.assertEqual(none_among(shape, list(rows)), model_none(shape, list(rows)))

    def test_kinds_of_values(self):
        told = none_among(LEAST, [LOUD])
        self.assertIs(type(told), tuple)
        self.assertEqual([type(part) for part in told], [int, int])
        self.assertIs(type(none_among(LEAST, [STILL])[1]), int)
        self.assertIsNone(none_among(LEAST, [0]))

    def test_the_list_is_not_changed(self):
        rows = [3, TURNED_LOUD, STILL, 12]
        none_among(LEAST, rows)
        self.assertEqual(rows, [3, TURNED_LOUD, STILL, 12])

    def test_a_list_of_three_hundred(self):
        rows = [0] * 298 + [TURNED_STILL, LOUD]
        self.assertEqual(none_among(LEAST, rows), (30, 16))
        self.assertIsNone(none_among(LEAST, [0] * 300))

    def test_by_name(self):
        self.assertEqual(none_among(rows=[LOUD], shape=LEAST), (15, 16))


class TestOddAnswer(unittest.TestCase):
    def test_it_is_the_told_none(self):
        self.assertEqual(odd_answer(LEAST), (14, 16))
        self.assertEqual(odd_answer((3, 4)), (0b0_111_1000, 16))
        self.assertEqual(odd_answer((11, 52)), (0x7FF8000000000000, 16))
        self.assertEqual(odd_answer(GREATEST), ((2 ** 12 - 1) * 2 ** 59, 16))
        for shape in SHAPES:
            told = odd_answer(shape)
            self.assertIs(type(told), tuple)
            self.assertEqual(told, odd_row(shape))


class TestWhateverTheDeed(unittest.TestCase):
    def check_two(self, shape, one, other):
        wanted = model_none(shape, [one, other])
        for name, deed in TWO_WAYED.items():
            for way in WAYS:
                self.assertEqual(deed(shape, one, other, way), wanted, (name, shape, one, other))
        self.assertEqual(lower(shape, one, other), wanted)
        self.assertEqual(higher(shape, one, other), wanted)
        self.assertEqual(rests(shape, one, other), (*wanted, None))

    def test_deeds_of_two(self):
        for shape in SHAPES:
            for none in none_rows(shape):
                for row in edge_rows(shape):
                    self.check_two(shape, none, row)
                    self.check_two(shape, row, none)

    def test_deeds_of_three(self):
        for shape in (LEAST, (3, 4), GREATEST):
            for rows in itertools.product(partners(shape), repeat=3):
                wanted = model_none(shape, rows)
                if wanted is not None:
                    for way in WAYS:
                        self.assertEqual(one_step(shape, *rows, way), wanted, (shape, rows))

    def test_deeds_of_one(self):
        for shape in SHAPES:
            for none in none_rows(shape):
                for way in WAYS:
                    self.assertEqual(root(shape, none, way), model_none(shape, [none]))

    def test_nones_go_ahead_of_what_is_odd(self):
        # Beside these two each deed would be odd.
        for shape in SHAPES:
            end, nought = end_row(shape, 0), signed_row(shape, 0, 0)
            e, m = shape
            still = written(shape, 1, 2 ** e - 1, 2 ** m - 1)
            loud = written(shape, 1, 2 ** e - 1, 1)
            quiet = written(shape, 1, 2 ** e - 1, 2 ** (m - 1) + 1)
            self.assertEqual(one_step(shape, end, nought, still), (still, 0))
            self.assertEqual(one_step(shape, nought, end, still), (still, 0))
            self.assertEqual(one_step(shape, end, nought, loud), (quiet, 16))
            self.assertEqual(rests(shape, end, still), (still, 0, None))
            self.assertEqual(rests(shape, still, nought), (still, 0, None))
            self.assertEqual(root(shape, still), (still, 0))

    def test_minus_does_not_turn_a_none(self):
        for shape in SHAPES:
            e, m = shape
            for sign in (0, 1):
                still = written(shape, sign, 2 ** e - 1, 2 ** m - 1)
                loud = written(shape, sign, 2 ** e - 1, 2 ** (m - 1) - 1)
                self.assertEqual(minus(shape, 0, still), (still, 0))
                self.assertEqual(minus(shape, still, 0), (still, 0))
                self.assertEqual(minus(shape, 0, loud), (still, 16))
                self.assertEqual(minus(shape, loud, 0), (still, 16))


if __name__ == "__main__":
    unittest.main()
