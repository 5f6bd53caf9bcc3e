"""Point 33: texts by sixteen."""

import unittest
from fractions import Fraction

from helper import (
    GREATEST, LEAST, SHAPES, SIGNS, SMALL_SHAPES, WAYS, ReadTests, all_bits, double, doubles,
    edge_numbers, edge_rows, last_size, measure, places, signed_row, undoubled,
)
from nearfold.errors import FoldError, NoNumber, NoText
from nearfold.sixteens import read_sixteen, sixteen_of

TEXTS = [
    "x0.0r0", "x0.00000000000000000000r9999", "x0.0r-9999", "x1.0r0", "x1.8r0", "x0.8r1", "x0.1r4",
    "x2.0r-1", "xf.fr0", "xf.ffffffffffffffffffffr0", "x1.8r-1", "x1.00000000000000000001r0",
    "x1.999999999999ar-4", "x1.2r0003", "x0.00001r20", "x1.fffffffffffffr1023", "x1.fffffffffffff7ffr1023",
    "x1.fffffffffffff8r1023", "x0.0000000000001r-1022", "x0.00000000000008r-1022", "x1.0r-1075",
    "x1.0r-1074", "x1.0r9999", "x1.0r-9999", "xa.bcdef0123456789r-17", "x3.3r5", "x7.0r1", "x1.ffr15",
    "x1.ffcr15", "x1.ffdr15", "x1.ffe0r15", "x1.ffe1r15", "x1.ffer15",
]


def model_fraction(text):
    """The fraction of a text by sixteen without a sign, figure by figure."""
    figures, power = text[1:].split("r")
    ahead, behind = figures.split(".")
    exact = Fraction("0123456789abcdef".index(ahead))
    for place, figure in enumerate(behind, start=1):
        exact += Fraction("0123456789abcdef".index(figure), 16 ** place)
    return exact * Fraction(2) ** int(power)


def model_text(shape, row):
    """The text of a number, from written places by fours."""
    (e, m), (sign, rank, body) = shape, places(shape, row)
    figures = format(body, "b").zfill(m)
    figures += "0" * (-m % 4)
    fours = [figures[at:at + 4] for at in range(0, len(figures), 4)]
    middle = 2 ** (e - 1) - 1
    return "{}x{}.{}r{}".format(
        "-" if sign else "", "1" if rank else "0", "".join("{:x}".format(int(four, 2)) for four in fours),
        rank - middle if rank else 2 - 2 ** (e - 1),
    )


class TestReadSixteen(ReadTests, unittest.TestCase):
    def check(self, shape, text):
        self.check_read(read_sixteen, shape, text, model_fraction(text))

    def test_by_the_exact_fraction(self):
        for shape in SHAPES:
            for text in TEXTS:
                self.check(shape, text)

    def test_by_hand(self):
        # The shape (2, 2): the unit is 1/4, the end is 12.
        told = [
            ("x1.0r0", "even", 4, 0), ("-x1.0r0", "even", 20, 0), ("x0.4r0", "even", 1, 0),
            ("x0.2r0", "even", 0, 3), ("x0.2r0", "off", 1, 3), ("x0.21r0", "even", 1, 3),
            ("x1.2r0", "even", 4, 1), ("x1.2r0", "up", 5, 1), ("x1.cr1", "even", 11, 0),
            ("x1.er1", "even", 12, 5), ("x1.er1", "in", 11, 1), ("x4.0r0", "in", 11, 5),
            ("x0.0r5", "even", 0, 0), ("-x0.0r-5", "even", 16, 0), ("x1.0r9999", "even", 12, 5),
            ("-x1.0r-9999", "down", 17, 3), ("x8.0r-3", "even", 4, 0), ("xc.0r-0002", "even", 10, 0),
        ]
        for text, way, bits, flags in told:
            self.assertEqual(read_sixteen(LEAST, text, way), (bits, flags), (text, way))

    def test_middles_and_beside_them(self):
        # In (8, 23) a body has six figures but one bit, which is the half of the next step.
        one = 127 * 2 ** 23
        for body in [0, 1, 2, 2 ** 22, 2 ** 23 - 2, 2 ** 23 - 1]:
            middle = "x1.{:06x}r0".format(2 * body + 1)
            even = one + body + body % 2
            self.assertEqual(read_sixteen((8, 23), middle), (even, 1))
            self.assertEqual(read_sixteen((8, 23), middle, "off"), (one + body + 1, 1))
            more = "x1.{:06x}00000000000001r0".format(2 * body + 1)
            self.assertEqual(read_sixteen((8, 23), more), (one + body + 1, 1))
            less = "x1.{:06x}ffffffffffffffr0".format(2 * body)
            self.assertEqual(read_sixteen((8, 23), less), (one + body, 1))
            for text in (middle, more, less):
                self.check((8, 23), text)

    def test_the_machine_s_own(self):
        for row in doubles(33, 1000):
            value = undoubled(row)
            text = value.hex().replace("0x", "x").replace("p+", "r").replace("p", "r")
            self.assertEqual(read_sixteen((11, 52), text), (row, 0), text)

    def test_no_text_of_great_letters(self):
        for text, begin in [("xA.0r0", 1), ("x1.Br0", 3), ("X1.0r0", 0), ("x1.0R0", 4)]:
            with self.assertRaises(NoText) as caught:
                read_sixteen(LEAST, text)
            self.assertEqual(caught.exception.at, begin)

    def test_by_name_and_without_a_way(self):
        self.assertEqual(read_sixteen(way="off", text="x0.2r0", shape=LEAST), (1, 3))
        self.assertEqual(read_sixteen(LEAST, "x0.2r0"), (0, 3))


class TestSixteenOf(unittest.TestCase):
    def check(self, shape, row):
        text = sixteen_of(shape, row)
        self.assertIs(type(text), str)
        self.assertEqual(text, model_text(shape, row), (shape, row))
        for way in WAYS:
            self.assertEqual(read_sixteen(shape, text, way), (row, 0), (shape, row, way))

    def test_all_numbers_of_small_shapes(self):
        for shape in SMALL_SHAPES + [(2, 5), (2, 6), (3, 7), (5, 2)]:
            for row in all_bits(shape):
                if row % 2 ** sum(shape) < last_size(shape):
                    self.check(shape, row)

    def test_edges(self):
        for shape in SHAPES:
            for row in edge_numbers(shape):
                self.check(shape, row)

    def test_every_length_of_body(self):
        for e in (2, 7, 11):
            for m in range(2, 61):
                for row in edge_numbers((e, m)):
                    self.check((e, m), row)

    def test_by_hand(self):
        told = [
            ((2, 2), 0, "x0.0r0"), ((2, 2), 16, "-x0.0r0"), ((2, 2), 1, "x0.4r0"), ((2, 2), 3, "x0.cr0"),
            ((2, 2), 4, "x1.0r0"), ((2, 2), 27, "-x1.cr1"), ((3, 5), 1, "x0.08r-2"),
            ((3, 5), 0x20, "x1.00r-2"), ((3, 5), 0x60, "x1.00r0"), ((3, 5), 0x13f, "-x1.f8r-2"),
            ((11, 52), 0, "x0.0000000000000r-1022"), ((11, 52), 1, "x0.0000000000001r-1022"),
            ((11, 52), double(-1.5), "-x1.8000000000000r0"), ((11, 52), double(0.1), "x1.999999999999ar-4"),
            ((11, 52), 0x7fefffffffffffff, "x1.fffffffffffffr1023"), (GREATEST, 1, "x0.000000000000001r-1022"),
            ((8, 23), 1, "x0.000002r-126"), ((8, 23), 0x3f800001, "x1.000002r0"),
        ]
        for shape, row, text in told:
            self.assertEqual(sixteen_of(shape, row), text)
        self.assertEqual(sixteen_of(bits=3, shape=LEAST), "x0.cr0")

    def test_texts_are_unlike(self):
        for shape in SMALL_SHAPES:
            rows = [signed_row(shape, sign, size) for sign in SIGNS for size in range(last_size(shape))]
            self.assertEqual(len({sixteen_of(shape, row) for row in rows}), len(rows))

    def test_no_number(self):
        for shape in SHAPES:
            for row in edge_rows(shape):
                if row % 2 ** sum(shape) >= last_size(shape):
                    with self.assertRaises(NoNumber) as caught:
                        sixteen_of(shape, row)
                    self.assertIsInstance(caught.exception, FoldError)
        for row in range(12, 16):
            for sign in (0, 16):
                self.assertRaises(NoNumber, sixteen_of, LEAST, row + sign)

    def test_the_worth_is_kept(self):
        for shape in SMALL_SHAPES:
            for size in range(last_size(shape)):
                self.assertEqual(model_fraction(sixteen_of(shape, size)), measure(shape, size))


if __name__ == "__main__":
    unittest.main()
