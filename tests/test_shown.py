"""Point 35: rows shown as texts."""

import unittest
from decimal import Decimal

from helper import (
    GREATEST, LEAST, SHAPES, SIGNS, SMALL_SHAPES, all_bits, double, doubles, edge_numbers, edge_rows,
    end_row, kind_word, places, signed_row, undoubled, written,
)
from nearfold.scan import is_good
from nearfold.shortest import shortest
from nearfold.shown import shown
from nearfold.tens import read
from nearfold.wholes import from_whole


def model_shown(shape, row):
    """The text of a number, written by Python's own decimal numbers."""
    figures, power = shortest(shape, row)
    sign = "-" if places(shape, row)[0] else ""
    exact = Decimal(figures).scaleb(power)
    first = len(str(figures)) + power - 1
    if -6 <= first <= 20:
        return sign + format(exact, "f")
    text = str(figures)
    return sign + text[0] + ("." + text[1:] if text[1:] else "") + "e" + str(first)


class TestShown(unittest.TestCase):
    def check(self, shape, row):
        text = shown(shape, row)
        self.assertIs(type(text), str)
        self.assertIs(is_good(text), True, text)
        self.assertEqual(read(shape, text)[0], row, (shape, text))
        if kind_word(shape, row) in ("nought", "small", "plain"):
            self.assertEqual(text, model_shown(shape, row), (shape, row))

    def test_all_bits_of_small_shapes(self):
        for shape in SMALL_SHAPES + [(2, 5), (3, 5), (5, 2), (7, 2)]:
            for row in all_bits(shape):
                self.check(shape, row)

    def test_edges(self):
        for shape in SHAPES:
            for row in edge_rows(shape):
                self.check(shape, row)

    def test_all_ranks(self):
        for shape in [(8, 23), GREATEST]:
            for rank in range(2 ** shape[0] - 1):
                self.check(shape, written(shape, rank % 2, rank, rank % 4))

    def test_doubles(self):
        for row in doubles(35, 1500):
            self.check((11, 52), row)

    def test_unlike_rows_have_unlike_texts(self):
        for shape in SMALL_SHAPES:
            texts = {shown(shape, row) for row in all_bits(shape)}
            self.assertEqual(len(texts), len(all_bits(shape)))


class TestWritings(unittest.TestCase):
    def check(self, value, text):
        self.assertEqual(undoubled(double(value)), value)
        self.assertEqual(shown((11, 52), double(value)), text)
        self.assertEqual(shown((11, 52), double(-value)), "-" + text)

    def test_the_point_s_own(self):
        for value, text in [(1500.0, "1500"), (12.5, "12.5"), (0.0123, "0.0123"), (1.23e-7, "1.23e-7"),
                            (1e22, "1e22")]:
            self.check(value, text)

    def test_figures_and_noughts(self):
        for value, text in [(1.0, "1"), (10.0, "10"), (123.0, "123"), (1e20, "1" + "0" * 20),
                            (1.5e20, "15" + "0" * 19), (2.0 ** 53, "9007199254740992"),
                            (1.2345678901234568e20, "123456789012345680000"), (9e20, "9" + "0" * 20)]:
            self.check(value, text)

    def test_the_bound_of_twenty_one(self):
        # q is 21 and 22, with one figure and with more.
        for value, text in [(1e20, "100000000000000000000"), (1e21, "1e21"),
                            (1.2345678901234568e20, "123456789012345680000"),
                            (1.2345678901234568e21, "1.2345678901234568e21"),
                            (9.9e20, "990000000000000000000"), (9.9e21, "9.9e21")]:
            self.check(value, text)

    def test_a_point_among_the_figures(self):
        # q is 1 and more, with figures behind the point: the power is below 0.
        for value, text in [(1.5, "1.5"), (1.25, "1.25"), (99.5, "99.5"), (123456.75, "123456.75"),
                            (0.1 + 1, "1.1"), (2251799813685248.5, "2251799813685248.5"),
                            (9007199254740991.0, "9007199254740991")]:
            self.check(value, text)
        # In (11, 60) up to twenty figures are told.
        row = read(GREATEST, "576460752303423488.5")
        self.assertEqual(row[1], 0)
        self.assertEqual(shown(GREATEST, row[0]), "576460752303423488.5")

    def test_noughts_ahead_of_the_figures(self):
        # q is 1, 0, -5 and -6, with one figure and with more.
        for value, text in [(5.0, "5"), (0.5, "0.5"), (0.05, "0.05"), (0.75, "0.75"), (0.000005, "0.000005"),
                            (0.0000075, "0.0000075"), (0.00000123, "0.00000123"), (5e-7, "5e-7"),
                            (1.5e-7, "1.5e-7"), (1.23e-7, "1.23e-7"), (9.9e-7, "9.9e-7"),
                            (0.00001, "0.00001"), (0.000001, "0.000001"), (0.0000001, "1e-7")]:
            self.check(value, text)

    def test_powers(self):
        for value, text in [(1e300, "1e300"), (1.5e300, "1.5e300"), (5e-324, "5e-324"),
                            (1.7976931348623157e308, "1.7976931348623157e308"),
                            (2.2250738585072014e-308, "2.2250738585072014e-308"), (1e100, "1e100")]:
            self.check(value, text)

    def test_tens_of_a_great_shape(self):
        for power in range(40):
            bits = from_whole(GREATEST, 10 ** power)[0]
            wanted = "1" + "0" * power if power <= 20 else f"1e{power}"
            self.assertEqual(shown(GREATEST, bits), wanted)
            bits = from_whole(GREATEST, -12 * 10 ** power)[0]
            wanted = "-12" + "0" * power if power <= 19 else f"-1.2e{power + 1}"
            self.assertEqual(shown(GREATEST, bits), wanted)

    def test_noughts(self):
        for shape in SHAPES:
            self.assertEqual(shown(shape, 0), "0")
            self.assertEqual(shown(shape, signed_row(shape, 1, 0)), "-0")

    def test_ends(self):
        for shape in SHAPES:
            self.assertEqual(shown(shape, end_row(shape, 0)), "end")
            self.assertEqual(shown(shape, end_row(shape, 1)), "-end")

    def test_nones(self):
        for shape in SHAPES:
            rank, half = 2 ** shape[0] - 1, 2 ** (shape[1] - 1)
            for mark in {0, 1, half // 2, half - 1}:
                for sign in SIGNS:
                    ahead = "-" * sign
                    row = written(shape, sign, rank, half + mark)
                    self.assertEqual(shown(shape, row), f"{ahead}still {mark}")
                    if mark:
                        row = written(shape, sign, rank, mark)
                        self.assertEqual(shown(shape, row), f"{ahead}loud {mark}")

    def test_the_least_shape(self):
        told = ["0", "0.2", "0.5", "0.8", "1", "1.2", "1.5", "1.8", "2", "2.5", "3", "3.5", "end", "loud 1",
                "still 0", "still 1"]
        self.assertEqual([shown(LEAST, row) for row in range(16)], told)
        self.assertEqual([shown(LEAST, row) for row in range(16, 32)], ["-" + text for text in told])
        self.assertEqual(shown(bits=11, shape=LEAST), "3.5")

    def test_numbers_of_a_great_shape_have_no_sign_of_their_own(self):
        for row in edge_numbers(GREATEST):
            sign = 2 ** sum(GREATEST)
            if row < sign:
                self.assertEqual(shown(GREATEST, row + sign), "-" + shown(GREATEST, row))


if __name__ == "__main__":
    unittest.main()
