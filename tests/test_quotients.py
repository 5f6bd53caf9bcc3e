"""Points 21 and 22: quotients and rests."""

import math
import unittest
from fractions import Fraction

from helper import (
    GREATEST, LEAST, SHAPES, SIGNS, WAYS, PairTests, double, doubles, edge_numbers, end_row,
    exact_of, kind_word, last_size, model_none, model_rounded, odd_row, places, signed_row,
    undoubled,
)
from nearfold.quotients import quotient, rests

# What comes of the kinds of one and other, nones aside: "number" is one but nought.
TABLE = {
    ("nought", "nought"): "odd", ("nought", "number"): "nought", ("nought", "end"): "nought",
    ("number", "nought"): "void", ("number", "number"): "rounded", ("number", "end"): "nought",
    ("end", "nought"): "end", ("end", "number"): "end", ("end", "end"): "odd",
}


def table_word(shape, row):
    word = kind_word(shape, row)
    return "number" if word in ("small", "plain") else word


def model_quotient(shape, one, other, way):
    told = model_none(shape, [one, other])
    if told is not None:
        return told
    sign = int(places(shape, one)[0] != places(shape, other)[0])
    due = TABLE[table_word(shape, one), table_word(shape, other)]
    if due == "odd":
        return odd_row(shape)
    if due == "nought":
        return signed_row(shape, sign, 0), 0
    if due in ("end", "void"):
        return end_row(shape, sign), 8 if due == "void" else 0
    exact = exact_of(shape, one) / exact_of(shape, other)
    return model_rounded(shape, sign, abs(exact), way)


def model_rests(shape, one, other):
    told = model_none(shape, [one, other])
    if told is not None:
        return (*told, None)
    if kind_word(shape, one) == "end" or kind_word(shape, other) == "nought":
        return (*odd_row(shape), None)
    if kind_word(shape, other) == "end":
        return one, 0, 0
    first, second = exact_of(shape, one), exact_of(shape, other)
    turns = round(first / second)
    left = first - turns * second
    sign = int(left < 0) if left else places(shape, one)[0]
    return (*model_rounded(shape, sign, abs(left), "in"), turns)


class TestQuotientByTheModel(PairTests, unittest.TestCase):
    def check(self, shape, one, other):
        for way in WAYS:
            told = quotient(shape, one, other, way)
            self.assertIs(type(told), tuple)
            wanted = model_quotient(shape, one, other, way)
            self.assertEqual(told, wanted, (shape, one, other, way))


class TestQuotientByHand(unittest.TestCase):
    """The shape (2, 2): heights 0 to 8 by ones, 10, 12, 14, and 16 beyond, four units are 1;
    the sign is 16, the end 12, the told none 14."""

    def test_numbers(self):
        told = [
            (4, 4, "even", 4, 0), (8, 4, "even", 8, 0), (4, 8, "even", 2, 0),
            (1, 11, "even", 0, 3), (1, 11, "up", 1, 3), (1, 8, "even", 0, 3),
            (1, 8, "off", 1, 3), (3, 4, "even", 3, 0), (4, 6, "even", 3, 3), (4, 6, "in", 2, 3),
            (7, 8, "even", 4, 3), (7, 8, "in", 3, 3), (7, 8, "off", 4, 3), (7, 6, "even", 5, 1),
            (7, 6, "in", 4, 1), (9, 4, "even", 9, 0), (4, 1, "even", 12, 5), (4, 1, "in", 11, 5),
            (11, 1, "up", 12, 5), (11, 1, "down", 11, 5), (11, 3, "even", 12, 5),
            (11, 4, "even", 11, 0), (7, 2, "even", 11, 0), (0, 3, "down", 0, 0),
            (11, 11, "down", 4, 0),
            # Of unlike signs:
            (1, 27, "up", 16, 3), (1, 27, "down", 17, 3), (7, 22, "up", 20, 1),
            (7, 22, "down", 21, 1), (4, 17, "up", 27, 5), (4, 17, "down", 28, 5),
            (0, 19, "even", 16, 0),
        ]
        for one, other, way, bits, flags in told:
            where = (one, other, way)
            self.assertEqual(quotient(LEAST, one, other, way), (bits, flags), where)
            self.assertEqual(quotient(LEAST, one ^ 16, other ^ 16, way), (bits, flags), where)

    def test_noughts_and_ends(self):
        told = [
            (0, 0, 14, 16), (0, 16, 14, 16), (16, 0, 14, 16), (16, 16, 14, 16),
            (12, 12, 14, 16), (12, 28, 14, 16), (28, 12, 14, 16), (28, 28, 14, 16),
            (4, 0, 12, 8), (4, 16, 28, 8), (20, 0, 28, 8), (20, 16, 12, 8), (1, 0, 12, 8),
            (27, 0, 28, 8), (12, 0, 12, 0), (12, 16, 28, 0), (28, 0, 28, 0), (28, 16, 12, 0),
            (12, 4, 12, 0), (12, 20, 28, 0), (28, 1, 28, 0), (28, 27, 12, 0),
            (4, 12, 0, 0), (4, 28, 16, 0), (27, 12, 16, 0), (27, 28, 0, 0),
            (0, 12, 0, 0), (0, 28, 16, 0), (16, 12, 16, 0), (16, 28, 0, 0),
            (0, 4, 0, 0), (0, 20, 16, 0), (16, 4, 16, 0), (16, 20, 0, 0),
        ]
        for one, other, bits, flags in told:
            for way in WAYS:
                self.assertEqual(quotient(LEAST, one, other, way), (bits, flags), (one, other))

    def test_by_name_and_without_a_way(self):
        self.assertEqual(quotient(way="in", other=6, one=7, shape=LEAST), (4, 1))
        self.assertEqual(quotient(LEAST, 7, 6), (5, 1))


class TestQuotientAgainstTheMachine(unittest.TestCase):
    def test_doubles(self):
        rows = doubles(20, 3000)
        for one, other in zip(rows, rows[1:]):
            if undoubled(other) != 0:
                try:
                    wanted = double(undoubled(one) / undoubled(other))
                except OverflowError:
                    continue
                self.assertEqual(quotient((11, 52), one, other)[0], wanted)

    def test_a_third(self):
        told = quotient((11, 52), double(1.0), double(3.0))
        self.assertEqual(told, (double(1 / 3), 1))
        told = quotient((11, 52), double(1.0), double(3.0), "up")
        self.assertEqual(told, (double(1 / 3) + 1, 1))


class TestRestsByTheModel(PairTests, unittest.TestCase):
    def check(self, shape, one, other):
        told = rests(shape, one, other)
        self.assertIs(type(told), tuple)
        self.assertEqual(told, model_rests(shape, one, other), (shape, one, other))


class TestRestsByHand(unittest.TestCase):
    """The shape (2, 2), as above."""

    def test_numbers(self):
        told = [
            (7, 4, 17, 2), (5, 4, 1, 1), (6, 4, 18, 2), (2, 4, 2, 0), (4, 4, 0, 1),
            (11, 4, 18, 4), (9, 4, 2, 2), (3, 2, 17, 2), (1, 2, 1, 0), (11, 1, 0, 14),
            (1, 11, 1, 0), (8, 3, 17, 3), (7, 3, 1, 2), (0, 5, 0, 0), (11, 8, 18, 2),
            (10, 8, 20, 2), (6, 11, 6, 0), (7, 11, 7, 0), (8, 11, 22, 1),
        ]
        for one, other, bits, turns in told:
            where = (one, other)
            self.assertEqual(rests(LEAST, one, other), (bits, 0, turns), where)
            self.assertEqual(rests(LEAST, one, other ^ 16), (bits, 0, -turns), where)
            self.assertEqual(rests(LEAST, one ^ 16, other), (bits ^ 16, 0, -turns), where)
            self.assertEqual(rests(LEAST, one ^ 16, other ^ 16), (bits ^ 16, 0, turns), where)

    def test_odd(self):
        for one in (12, 28):
            for other in (0, 16, 1, 20, 11, 12, 28):
                self.assertEqual(rests(LEAST, one, other), (14, 16, None))
        for other in (0, 16):
            for one in (0, 16, 1, 20, 11, 12, 28):
                self.assertEqual(rests(LEAST, one, other), (14, 16, None))

    def test_by_an_end(self):
        for one in (0, 16, 1, 20, 11, 27):
            for other in (12, 28):
                self.assertEqual(rests(LEAST, one, other), (one, 0, 0))

    def test_by_name(self):
        self.assertEqual(rests(other=4, one=7, shape=LEAST), (17, 0, 2))

    def test_kinds_of_values(self):
        self.assertEqual([type(part) for part in rests(LEAST, 7, 4)], [int, int, int])


class TestRestsEverywhere(unittest.TestCase):
    def test_never_above_half_the_other(self):
        for shape in SHAPES:
            numbers = edge_numbers(shape)
            for one in numbers:
                for other in numbers:
                    if exact_of(shape, other) == 0:
                        continue
                    bits, flags, turns = rests(shape, one, other)
                    left = exact_of(shape, bits)
                    self.assertEqual(flags, 0)
                    whole = left + turns * exact_of(shape, other)
                    self.assertEqual(whole, exact_of(shape, one))
                    self.assertLessEqual(2 * abs(left), abs(exact_of(shape, other)))
                    if 2 * abs(left) == abs(exact_of(shape, other)):
                        self.assertEqual(turns % 2, 0)

    def test_a_nought_has_the_sign_of_the_one(self):
        for shape in SHAPES:
            for sign in SIGNS:
                nought = signed_row(shape, sign, 0)
                for other in edge_numbers(shape):
                    if exact_of(shape, other) == 0:
                        continue
                    row = signed_row(shape, sign, other % 2 ** sum(shape))
                    turns = 1 if row == other else -1
                    self.assertEqual(rests(shape, nought, other), (nought, 0, 0))
                    self.assertEqual(rests(shape, row, other), (nought, 0, turns))

    def test_many_turns(self):
        last = last_size(GREATEST)
        turns = (2 ** 61 - 1) * 2 ** 2045
        self.assertEqual(rests(GREATEST, last - 1, 1), (0, 0, turns))
        self.assertEqual(rests(GREATEST, last - 1, 1 + 2 ** 71), (0, 0, -turns))
        told = rests(GREATEST, last - 1, 3)
        third = round(Fraction(turns, 3))
        self.assertEqual(told[1:], (0, third))
        self.assertEqual(exact_of(GREATEST, told[0]) * 2 ** 1082, turns - 3 * third)

    def test_doubles_of_the_machine(self):
        rows = doubles(21, 3000)
        for one, other in zip(rows, rows[1:]):
            if undoubled(other) != 0:
                wanted = double(math.remainder(undoubled(one), undoubled(other)))
                self.assertEqual(rests((11, 52), one, other)[:2], (wanted, 0))


if __name__ == "__main__":
    unittest.main()
