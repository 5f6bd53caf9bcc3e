"""Points 24 to 26: how two stand, places, the lower and the higher one."""

import math
import unittest

from helper import (
    GREATEST, LEAST, NO_WHOLES, SHAPES, SMALL_SHAPES, PairTests, all_bits, doubles, edge_rows,
    end_row, exact_of, kind_word, last_size, model_none, places, signed_row, undoubled,
)
from nearfold.bits import next_up
from nearfold.errors import NoBits
from nearfold.orders import by_place, higher, in_order, lower, order_of, place_of


def standing(shape, row):
    """A number or an end by its worth; None of nones."""
    word = kind_word(shape, row)
    if word in ("loud", "still"):
        return None
    if word == "end":
        return -math.inf if places(shape, row)[0] else math.inf
    return exact_of(shape, row)


def model_order(shape, one, other):
    first, second = standing(shape, one), standing(shape, other)
    if first is None or second is None:
        return "apart"
    if first == second:
        return "same"
    return "less" if first < second else "more"


def ladder_key(shape, row):
    return standing(shape, row), -places(shape, row)[0]


class TestOrderOf(PairTests, unittest.TestCase):
    def check(self, shape, one, other):
        told = order_of(shape, one, other)
        self.assertEqual(told, model_order(shape, one, other), (shape, one, other))

    def test_by_hand(self):
        # The shape (2, 2): the sign is 16, the end 12, nones 13 to 15.
        told = [
            (0, 0, "same"), (0, 16, "same"), (16, 0, "same"), (16, 16, "same"), (5, 5, "same"),
            (21, 21, "same"), (12, 12, "same"), (28, 28, "same"), (28, 12, "less"),
            (12, 28, "more"), (11, 12, "less"), (28, 27, "less"), (5, 21, "more"),
            (21, 5, "less"), (21, 20, "less"), (20, 21, "more"), (1, 0, "more"),
            (1, 16, "more"), (17, 0, "less"), (17, 16, "less"), (0, 17, "more"), (16, 1, "less"),
            (13, 13, "apart"), (14, 14, "apart"), (14, 0, "apart"), (0, 31, "apart"),
            (12, 13, "apart"), (29, 28, "apart"), (14, 30, "apart"),
        ]
        for one, other, word in told:
            self.assertEqual(order_of(LEAST, one, other), word, (one, other))
        self.assertEqual(order_of(other=1, one=0, shape=LEAST), "less")

    def test_up_the_ladder(self):
        for shape in SMALL_SHAPES:
            row = end_row(shape, 1)
            while row != end_row(shape, 0):
                above = next_up(shape, row)
                self.assertEqual(order_of(shape, row, above), "less")
                self.assertEqual(order_of(shape, above, row), "more")
                row = above

    def test_doubles_of_the_machine(self):
        rows = doubles(23, 2000)
        for one, other in zip(rows, rows[1:]):
            first, second = undoubled(one), undoubled(other)
            word = "less" if first < second else "more" if first > second else "same"
            self.assertEqual(order_of((11, 52), one, other), word)


class TestPlaces(unittest.TestCase):
    def test_by_hand(self):
        told = {0: 0, 1: 1, 11: 11, 12: 12, 13: 13, 14: 14, 15: 15,
                16: -1, 17: -2, 27: -12, 28: -13, 29: -14, 31: -16}
        for bits, place in told.items():
            self.assertEqual(place_of(LEAST, bits), place)
            self.assertEqual(by_place(LEAST, place), bits)

    def test_all_places_of_small_shapes(self):
        for shape in SMALL_SHAPES:
            half = 2 ** sum(shape)
            told = [place_of(shape, row) for row in all_bits(shape)]
            self.assertEqual(sorted(told), list(range(-half, half)))
            for row, place in zip(all_bits(shape), told):
                self.assertEqual(by_place(shape, place), row)

    def test_edges_of_all_shapes(self):
        for shape in SHAPES:
            half = 2 ** sum(shape)
            self.assertEqual(place_of(shape, 2 * half - 1), -half)
            self.assertEqual(place_of(shape, half - 1), half - 1)
            self.assertEqual(place_of(shape, half), -1)
            self.assertEqual(by_place(shape, -half), 2 * half - 1)
            self.assertEqual(by_place(shape, half - 1), half - 1)
            self.assertEqual(by_place(shape, -1), half)
            self.assertEqual(by_place(shape, 0), 0)
            for row in edge_rows(shape):
                self.assertEqual(by_place(shape, place_of(shape, row)), row)

    def test_places_lie_by_the_order(self):
        for shape in SHAPES:
            rows = [row for row in edge_rows(shape) if standing(shape, row) is not None]
            by_worth = sorted(rows, key=lambda row: ladder_key(shape, row))
            told = [place_of(shape, row) for row in by_worth]
            self.assertEqual(told, sorted(told))

    def test_beyond(self):
        for shape in SHAPES:
            half = 2 ** sum(shape)
            for place in (half, half + 1, 2 * half - 1, 2 * half, 10 ** 900, -half - 1, -half - 2,
                          -2 * half, -10 ** 900):
                with self.assertRaises(NoBits, msg=(shape, place)):
                    by_place(shape, place)

    def test_no_whole_numbers(self):
        for shape in SHAPES:
            for thing in NO_WHOLES:
                with self.assertRaises(NoBits, msg=(shape, thing)):
                    by_place(shape, thing)

    def test_by_name(self):
        self.assertEqual(place_of(bits=17, shape=LEAST), -2)
        self.assertEqual(by_place(place=-2, shape=LEAST), 17)


class TestInOrder(unittest.TestCase):
    def test_by_hand(self):
        rows = [0, 15, 16, 31, 5, 5, 21, 12, 28, 0, 16, 13]
        wanted = [31, 28, 21, 16, 16, 0, 0, 5, 5, 12, 13, 15]
        self.assertEqual(in_order(LEAST, rows), wanted)
        self.assertEqual(in_order(LEAST, rows[::-1]), wanted)
        self.assertEqual(in_order(rows=[16, 31], shape=LEAST), [31, 16])

    def test_short_lists(self):
        self.assertEqual(in_order(LEAST, []), [])
        self.assertEqual(in_order(LEAST, [31]), [31])
        self.assertEqual(in_order(LEAST, [7, 7, 7]), [7, 7, 7])

    def test_all_rows_of_small_shapes(self):
        for shape in SMALL_SHAPES:
            half = 2 ** sum(shape)
            wanted = list(range(2 * half - 1, half - 1, -1)) + list(range(half))
            self.assertEqual(in_order(shape, list(all_bits(shape))), wanted)

    def test_three_hundred(self):
        rows = [place * 7919 % 2 ** 72 for place in range(-150 * 10 ** 17, 150 * 10 ** 17, 10 ** 17)]
        told = in_order(GREATEST, rows)
        self.assertEqual(len(told), 300)
        places_told = [row if row < 2 ** 71 else 2 ** 71 - 1 - row for row in told]
        self.assertEqual(places_told, sorted(places_told))
        self.assertEqual(sorted(told), sorted(rows))

    def test_the_list_is_a_new_one(self):
        rows = [3, 2, 1]
        told = in_order(LEAST, rows)
        self.assertIs(type(told), list)
        self.assertEqual((rows, told), ([3, 2, 1], [1, 2, 3]))
        told.append(9)
        self.assertEqual(in_order(LEAST, rows), [1, 2, 3])
        lone = [1]
        self.assertIsNot(in_order(LEAST, lone), lone)


class TestLowerAndHigher(PairTests, unittest.TestCase):
    def check(self, shape, one, other):
        told = model_none(shape, [one, other])
        if told is None:
            low, high = sorted([one, other], key=lambda row: ladder_key(shape, row))
            wanted = ((low, 0), (high, 0))
        else:
            wanted = (told, told)
        self.assertEqual(lower(shape, one, other), wanted[0], (shape, one, other))
        self.assertEqual(higher(shape, one, other), wanted[1], (shape, one, other))

    def test_noughts_and_ends(self):
        for shape in SHAPES:
            noughts = [signed_row(shape, sign, 0) for sign in (0, 1)]
            for one, other in (noughts, noughts[::-1]):
                self.assertEqual(lower(shape, one, other), (noughts[1], 0))
                self.assertEqual(higher(shape, one, other), (noughts[0], 0))
            greatest = last_size(shape) - 1
            self.assertEqual(higher(shape, end_row(shape, 0), greatest), (end_row(shape, 0), 0))
            self.assertEqual(lower(shape, end_row(shape, 0), greatest), (greatest, 0))
            self.assertEqual(lower(shape, end_row(shape, 1), greatest), (end_row(shape, 1), 0))

    def test_kinds_of_values_and_names(self):
        self.assertIs(type(lower(LEAST, 1, 2)), tuple)
        self.assertIs(type(higher(LEAST, 1, 2)), tuple)
        self.assertEqual(lower(other=5, one=21, shape=LEAST), (21, 0))
        self.assertEqual(higher(other=5, one=21, shape=LEAST), (5, 0))


if __name__ == "__main__":
    unittest.main()
