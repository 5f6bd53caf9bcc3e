"""Point 34: shortest figures."""

import unittest
from decimal import Decimal
from fractions import Fraction

from helper import (
    GREATEST, LEAST, SHAPES, SIGNS, SMALL_SHAPES, double, doubles, edge_numbers, edge_rows, last_size,
    measure, model_rounded, signed_row, undoubled,
)
from nearfold.errors import FoldError, NoNumber
from nearfold.shortest import shortest
from nearfold.tens import read

TRIED_SHAPES = SMALL_SHAPES + [(2, 5), (3, 5), (5, 2), (6, 2)]


def worth(figures, power):
    return figures * Fraction(10) ** power


def read_back(shape, figures, power):
    """The size that figures are read to by "even"."""
    return model_rounded(shape, 0, worth(figures, power), "even")[0]


def powers_of(shape):
    """All powers of ten that figures of numbers of a small shape may need."""
    least, beyond = measure(shape, 1), measure(shape, last_size(shape))
    low = high = 0
    while Fraction(10) ** low > least / 1000:
        low -= 1
    while Fraction(10) ** high < beyond:
        high += 1
    return range(low, high + 1)


def best_by_trying(shape):
    """The shortest figures of all numbers of a small shape, by trying all rows of one figure,
    of two and so on: each is read, and kept by its size."""
    best, many = {}, 1
    while len(best) < last_size(shape) - 1:
        found = {}
        for power in powers_of(shape):
            for figures in range(10 ** (many - 1), 10 ** many):
                size = read_back(shape, figures, power)
                if size < last_size(shape):
                    found.setdefault(size, []).append((figures, power))
        for size, rows in found.items():
            if size and size not in best:
                best[size] = min(rows, key=lambda row: (abs(worth(*row) - measure(shape, size)), row[0] % 2))
        many += 1
    return best


class TestSmallShapes(unittest.TestCase):
    def test_all_numbers_by_trying(self):
        for shape in TRIED_SHAPES:
            best = best_by_trying(shape)
            for size in range(1, last_size(shape)):
                for sign in SIGNS:
                    told = shortest(shape, signed_row(shape, sign, size))
                    self.assertIs(type(told), tuple)
                    self.assertEqual([type(part) for part in told], [int, int])
                    self.assertEqual(told, best[size], (shape, size))

    def test_read_back(self):
        for shape in TRIED_SHAPES:
            for sign in SIGNS:
                for size in range(1, last_size(shape)):
                    row = signed_row(shape, sign, size)
                    figures, power = shortest(shape, row)
                    self.assertEqual(read(shape, "-" * sign + f"{figures}e{power}")[0], row)


class TestGreatShapes(unittest.TestCase):
    def check(self, shape, size):
        figures, power = shortest(shape, size)
        exact = measure(shape, size)
        self.assertEqual(read_back(shape, figures, power), size)
        many = len(str(figures))
        self.no_fewer(shape, size, many, power + many - 1)
        # Beside these figures lie none that are read back, too, and are nearer.
        others = [(figures - 1, power), (figures + 1, power)]
        if many == 1:
            others += [(9, power - 1), (1, power + 1)]
        for other in others:
            if other[0] and len(str(other[0])) == many and read_back(shape, *other) == size:
                off = abs(worth(*other) - exact) - abs(worth(figures, power) - exact)
                self.assertGreaterEqual(off, 0, (shape, size, other))
                if off == 0:
                    self.assertEqual(figures % 2, 0, (shape, size, other))

    def no_fewer(self, shape, size, many, first):
        """Rows of fewer figures that lie next to the number, below and above, are read to others."""
        exact = measure(shape, size)
        for fewer in range(1, many):
            for power in range(first - fewer, first - fewer + 3):
                below = exact // Fraction(10) ** power
                for figures in (below, below + 1):
                    if 10 ** (fewer - 1) <= figures <= 10 ** fewer:
                        self.assertNotEqual(read_back(shape, figures, power), size, (shape, size, figures))

    def test_edges(self):
        for shape in SHAPES + [(11, 57), (9, 40), (4, 60)]:
            for row in edge_numbers(shape):
                if 0 < row < last_size(shape):
                    self.check(shape, row)

    def test_first_and_last_of_ranks(self):
        for shape, ranks in [(GREATEST, [1, 2, 3, 500, 900, 1000, 1022, 1023, 1024, 1030, 1083, 1084,
                                         1085, 1500, 2045, 2046]),
                             ((8, 23), range(1, 255, 9)), ((5, 10), range(1, 31))]:
            for rank in ranks:
                first = rank * 2 ** shape[1]
                for size in (first - 1, first, first + 1):
                    self.check(shape, size)

    def test_whole_small_ranks(self):
        for shape in [(5, 10), (8, 5)]:
            for size in range(1, last_size(shape), 37):
                self.check(shape, size)

    def test_the_machine_s_own(self):
        # The machine's own texts are shortest ones, and the nearest of these.
        for row in doubles(34, 3000):
            if row % 2 ** 63:
                figures, power = shortest((11, 52), row)
                wanted = Decimal(repr(abs(undoubled(row))))
                self.assertEqual(Decimal(figures).scaleb(power), wanted)
                self.assertNotEqual(figures % 10, 0)


class TestByHand(unittest.TestCase):
    def test_the_example(self):
        # 1, -2 and 4, -3 are read to it as well.
        self.assertEqual(shortest((3, 5), 1), (8, -3))
        self.assertEqual(read((3, 5), "1e-2")[0], 1)
        self.assertEqual(read((3, 5), "4e-3")[0], 1)

    def test_the_least_shape(self):
        # 0.25, 0.5, 0.75, 1, 1.25, 1.5, 1.75, 2, 2.5, 3, 3.5: each is read from a middle to a middle.
        told = [(2, -1), (5, -1), (8, -1), (1, 0), (12, -1), (15, -1), (18, -1), (2, 0), (25, -1), (3, 0),
                (35, -1)]
        # 0.25 lies amid 0.2 and 0.3, and 0.75 amid 0.7 and 0.8: the even ones are told.
        self.assertEqual([shortest(LEAST, size) for size in range(1, 12)], told)

    def test_bounds_of_even_and_odd_sizes(self):
        # In (5, 2), 30 lies amid 28 and 32, and goes to 32, the one of even size.
        self.assertEqual(shortest((5, 2), 79), (28, 0))
        self.assertEqual(shortest((5, 2), 80), (3, 1))
        self.assertEqual(read((5, 2), "30"), (80, 1))

    def test_the_first_of_a_rank(self):
        # 28672 lies half as far below 32768 as 40960 above it: 30000 is read to 28672.
        self.assertEqual(shortest((5, 2), 120), (33, 3))
        self.assertEqual(read((5, 2), "3e4")[0], 119)
        # 2 ** -1022 is the first plain one, and has neighbours as far off at both sides.
        self.assertEqual(shortest((11, 52), 2 ** 52), (22250738585072014, -324))

    def test_the_greatest_number(self):
        self.assertEqual(shortest((11, 52), 0x7fefffffffffffff), (17976931348623157, 292))
        self.assertEqual(shortest((8, 23), 0x7f7fffff), (34028235, 31))
        self.assertEqual(shortest((5, 10), 0x7bff), (655, 2))
        self.assertEqual(shortest((3, 4), 0x6f), (155, -1))

    def test_the_least_numbers(self):
        self.assertEqual(shortest((11, 52), 1), (5, -324))
        self.assertEqual(shortest((8, 23), 1), (1, -45))
        self.assertEqual(shortest((5, 10), 1), (6, -8))

    def test_ten_for_nine_and_more(self):
        # Above nine steps of 100000 comes the tenth, which is a 1 of the greater power.
        row = read((6, 3), "983040")[0]
        self.assertEqual(measure((6, 3), row), 983040)
        self.assertEqual(shortest((6, 3), row), (1, 6))
        # Where 1 is not read back, nine and more has more figures.
        row = read((5, 4), "0.96875")[0]
        self.assertEqual(measure((5, 4), row), Fraction(31, 32))
        self.assertEqual(shortest((5, 4), row), (97, -2))
        row = read((5, 2), "10")[0]
        self.assertEqual(shortest((5, 2), row), (1, 1))

    def test_well_known_ones(self):
        told = [(0.1, (1, -1)), (0.3, (3, -1)), (1.0, (1, 0)), (10.0, (1, 1)), (1e22, (1, 22)), (1e23, (1, 23)),
                (2.0 ** 53, (9007199254740992, 0)), (1500.0, (15, 2)), (0.1 + 0.2, (30000000000000004, -17)),
                (9.5, (95, -1)), (123456.0, (123456, 0)), (5e-324, (5, -324)), (1e-323, (1, -323))]
        for value, wanted in told:
            self.assertEqual(shortest((11, 52), double(value)), wanted)
            self.assertEqual(shortest((11, 52), double(-value)), wanted)
        self.assertEqual(shortest(bits=double(0.5), shape=(11, 52)), (5, -1))


class TestOthers(unittest.TestCase):
    def test_noughts(self):
        for shape in SHAPES:
            for sign in SIGNS:
                self.assertEqual(shortest(shape, signed_row(shape, sign, 0)), (0, 0))

    def test_no_number(self):
        for shape in SHAPES:
            for row in edge_rows(shape):
                if row % 2 ** sum(shape) >= last_size(shape):
                    with self.assertRaises(NoNumber) as caught:
                        shortest(shape, row)
                    self.assertIsInstance(caught.exception, FoldError)


if __name__ == "__main__":
    unittest.main()
