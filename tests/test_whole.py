"""Points 2 to 4: what is promised over the whole program, for shapes and rows from everywhere."""

import random
import unittest
from fractions import Fraction

from helper import (
    GREATEST, LEAST, SIGNS, WAYS, end_row, exact_of, kind_word, last_size, measure, model_none,
    model_rounded, model_sum, odd_row, part_of, places, product_part, signed_row, written,
)
from nearfold.desk import Desk
from nearfold.flags import flag_words
from nearfold.moves import harmless, holds, moved, through
from nearfold.nones import none_among
from nearfold.orders import by_place, in_order, order_of, place_of
from nearfold.products import one_step, times
from nearfold.quotients import quotient, rests
from nearfold.roots import root
from nearfold.rounding import rounded
from nearfold.scan import is_good
from nearfold.shortest import shortest
from nearfold.shown import shown
from nearfold.sixteens import read_sixteen, sixteen_of
from nearfold.sums import minus, plus
from nearfold.tens import read
from nearfold.totals import dots, split, total
from nearfold.wholes import from_whole, to_whole


class Source:
    """Shapes and rows, always the same ones for a seed."""

    def __init__(self, seed):
        self.bits = random.Random(seed).getrandbits

    def below(self, bound):
        return self.bits(80) % bound

    def shape(self):
        return 2 + self.below(10), 2 + self.below(59)

    def number(self, shape):
        """A number of any rank, or of one about the middle, so that two of them meet."""
        ranks = 2 ** shape[0] - 1
        rank = self.below(ranks)
        if self.below(2):
            rank = min(max(ranks // 2 + self.below(9) - 4, 0), ranks - 1)
        body = self.below(2 ** shape[1])
        if self.below(3) == 0:
            body = [0, 1, 2 ** shape[1] - 1, 2 ** (shape[1] - 1)][self.below(4)]
        return written(shape, self.below(2), rank, body)

    def row(self, shape):
        """A number, now and then an end or a none."""
        if self.below(12):
            return self.number(shape)
        return written(shape, self.below(2), 2 ** shape[0] - 1, self.below(2 ** shape[1]) * self.below(2))


def is_number(shape, row):
    return kind_word(shape, row) in ("nought", "small", "plain")


class TestDeedsUponNumbers(unittest.TestCase):
    def next_to(self, shape, told, exact, way):
        """The row lies next to the exact answer, on the side that the way tells; near is told
        just where it is not exact."""
        bits, flags = told
        sign, rank, body = places(shape, bits)
        size = rank * 2 ** shape[1] + body
        self.assertLessEqual(size, last_size(shape))
        self.assertEqual(flags & 1, int(size == last_size(shape) or measure(shape, size) != abs(exact)))
        if exact != 0:
            self.assertEqual(sign, int(exact < 0))
        towards = {"in": True, "up": sign == 1, "down": sign == 0}.get(way)
        exact = abs(exact)
        if exact >= measure(shape, last_size(shape)):
            self.assertGreaterEqual(size, last_size(shape) - 1)
        elif towards is True:
            self.assertTrue(measure(shape, size) <= exact < measure(shape, size + 1))
        elif towards is False:
            self.assertTrue(size == 0 == exact or measure(shape, size - 1) < exact <= measure(shape, size))
        else:
            for other in (size - 1, size + 1):
                if 0 <= other <= last_size(shape):
                    off = abs(measure(shape, other) - exact) - abs(measure(shape, size) - exact)
                    self.assertGreaterEqual(off, 0)

    def test_shapes_and_rows_from_everywhere(self):
        source = Source(4)
        for turn in range(1200):
            shape = source.shape()
            one, other, third = (source.number(shape) for place in range(3))
            first, second, added = (exact_of(shape, row) for row in (one, other, third))
            way = WAYS[turn % 5]
            self.next_to(shape, plus(shape, one, other, way), first + second, way)
            self.next_to(shape, minus(shape, one, other, way), first - second, way)
            self.next_to(shape, times(shape, one, other, way), first * second, way)
            self.next_to(shape, one_step(shape, one, other, third, way), first * second + added, way)
            if second:
                self.next_to(shape, quotient(shape, one, other, way), first / second, way)
            rows = [one, other, third] + [source.number(shape) for place in range(turn % 9)]
            exact = sum(exact_of(shape, row) for row in rows)
            self.next_to(shape, total(shape, rows, way), exact, way)
            pairs = list(zip(rows, rows[1:]))
            exact = sum(exact_of(shape, left) * exact_of(shape, right) for left, right in pairs)
            self.next_to(shape, dots(shape, pairs, way), exact, way)

    def test_by_the_model(self):
        source = Source(5)
        for turn in range(1200):
            shape = source.shape()
            one, other, third = (source.row(shape) for place in range(3))
            way = WAYS[turn % 5]
            told = model_none(shape, [one, other])
            if told is None:
                part = product_part(shape, one, other)
                summed = model_sum(shape, [part_of(shape, one), part_of(shape, other)], way)
                product = odd_row(shape) if part == "odd" else model_sum(shape, [part], way)
            else:
                summed = product = told
            self.assertEqual(plus(shape, one, other, way), summed)
            self.assertEqual(total(shape, [one, other], way), summed)
            self.assertEqual(times(shape, one, other, way), product)
            self.assertEqual(dots(shape, [(one, other)], way), product)
            wanted = model_none(shape, [one, other, third])
            if wanted is None:
                wanted = odd_row(shape) if part == "odd" else model_sum(shape, [part, part_of(shape, third)], way)
            self.assertEqual(one_step(shape, one, other, third, way), wanted)

    def test_roots(self):
        source = Source(6)
        for turn in range(1000):
            shape = source.shape()
            row = source.number(shape) % 2 ** sum(shape)
            bits, flags = root(shape, row, WAYS[turn % 5])
            exact = exact_of(shape, row)
            self.assertEqual(flags & 1, int(measure(shape, bits) ** 2 != exact))
            low, high = measure(shape, max(bits - 1, 0)) ** 2, measure(shape, bits + 1) ** 2
            self.assertTrue(low <= exact <= high)
            if WAYS[turn % 5] in ("in", "down"):
                self.assertLessEqual(measure(shape, bits) ** 2, exact)
            if WAYS[turn % 5] == "up":
                self.assertGreaterEqual(measure(shape, bits) ** 2, exact)
            if flags and WAYS[turn % 5] in ("even", "off"):
                below = bits - (measure(shape, bits) ** 2 > exact)
                middle = (measure(shape, below) + measure(shape, below + 1)) / 2
                self.assertEqual(bits, below + (exact > middle ** 2))

    def test_rests_and_splits(self):
        source = Source(7)
        for turn in range(1000):
            shape = source.shape()
            one, other = source.number(shape), source.number(shape)
            first, second = exact_of(shape, one), exact_of(shape, other)
            if second:
                bits, flags, turns = rests(shape, one, other)
                self.assertEqual((exact_of(shape, bits), flags), (first - turns * second, 0))
                self.assertLessEqual(2 * abs(exact_of(shape, bits)), abs(second))
                self.assertEqual(turns, round(first / second))
            bits = plus(shape, one, other)[0]
            if is_number(shape, bits):
                whole, left = split(shape, one, other)
                self.assertEqual(whole, bits)
                self.assertEqual(exact_of(shape, whole) + exact_of(shape, left), first + second)


class TestOrder(unittest.TestCase):
    def test_the_table(self):
        source = Source(8)
        for turn in range(1000):
            shape = source.shape()
            one, other = source.row(shape), source.row(shape)
            self.assertEqual(by_place(shape, place_of(shape, one)), one)
            if is_number(shape, one) and is_number(shape, other):
                first, second = exact_of(shape, one), exact_of(shape, other)
                wanted = "less" if first < second else "more" if first > second else "same"
                self.assertEqual(order_of(shape, one, other), wanted)


class TestTexts(unittest.TestCase):
    def test_read_back(self):
        source = Source(9)
        for turn in range(1500):
            shape = source.shape()
            row = source.row(shape)
            text = shown(shape, row)
            self.assertIs(is_good(text), True)
            self.assertEqual(read(shape, text)[0], row)
            if is_number(shape, row):
                for way in WAYS:
                    self.assertEqual(read_sixteen(shape, sixteen_of(shape, row), way), (row, 0))

    def test_no_fewer_figures(self):
        source = Source(10)
        for turn in range(600):
            shape = source.shape()
            row = source.number(shape) % 2 ** sum(shape)
            if row == 0:
                continue
            figures, power = shortest(shape, row)
            exact = exact_of(shape, row)
            if figures >= 10:
                # The rows of one figure less that lie next to the number, below and above.
                step = Fraction(10) ** (power + 1)
                for fewer in (exact // step, exact // step + 1):
                    self.assertNotEqual(model_rounded(shape, 0, fewer * step, "even")[0], row)
            off = abs(figures * Fraction(10) ** power - exact)
            for beside in (figures - 1, figures + 1):
                other = beside * Fraction(10) ** power
                if model_rounded(shape, 0, other, "even")[0] == row and len(str(beside)) == len(str(figures)):
                    self.assertTrue((off, figures % 2) < (abs(other - exact), beside % 2))

    def test_any_figures(self):
        source = Source(11)
        for turn in range(600):
            shape = source.shape()
            figures = str(source.bits(8 + turn % 200))
            at = source.below(len(figures) + 1)
            text = figures[:at] + "." + figures[at:] if 0 < at < len(figures) else figures
            text += "e{}".format(source.below(700) - 350) if turn % 3 else ""
            sign, way = turn % 2, WAYS[turn % 5]
            wanted = model_rounded(shape, sign, Fraction(text), way)
            self.assertEqual(read(shape, "-" * sign + text, way), wanted, (shape, text))


class TestSteps(unittest.TestCase):
    def test_harmless_or_a_pair(self):
        source = Source(12)
        deeds = {"plus": plus, "times": times, "quotient": quotient}
        for turn in range(1500):
            small, great = source.shape(), source.shape()
            great = max(small[0], great[0]), max(small[1], great[1])
            self.assertIs(holds(great, small), True)
            way = ("even", "off", "even", "off", "in", "up", "down")[turn % 7]
            for word, deed in deeds.items():
                answer, pair = harmless(small, great, word, way)
                if answer == "harmful":
                    self.assertNotEqual(through(small, great, word, *pair, way)[0], deed(small, *pair, way)[0])
                elif answer == "harmless":
                    one, other = source.row(small), source.row(small)
                    step, straight = through(small, great, word, one, other, way), deed(small, one, other, way)
                    self.assertEqual(step[0], straight[0], (small, great, word, one, other, way))

    def test_moved_there_and_back(self):
        source = Source(13)
        for turn in range(1000):
            small, great = source.shape(), source.shape()
            row = source.number(small)
            bits, flags = moved(small, row, great, WAYS[turn % 5])
            wanted = model_rounded(great, places(small, row)[0], abs(exact_of(small, row)), WAYS[turn % 5])
            self.assertEqual((bits, flags), wanted)
            if holds(great, small):
                self.assertEqual((flags, moved(great, bits, small, WAYS[turn % 5])), (0, (row, 0)))


class TestNothingIsChanged(unittest.TestCase):
    def test_lists_handed_in(self):
        rows = [11, 1, 27, 13, 14]
        for deed in (total, none_among, in_order):
            deed(LEAST, rows)
            self.assertEqual(rows, [11, 1, 27, 13, 14])
        pairs = [(11, 1), (27, 13)]
        dots(LEAST, pairs)
        self.assertEqual(pairs, [(11, 1), (27, 13)])

    def test_lists_told_are_new(self):
        rows = [3, 1, 2]
        told = in_order(LEAST, rows)
        told.append(9)
        self.assertEqual((rows, in_order(LEAST, rows)), ([3, 1, 2], [1, 2, 3]))
        told = in_order(LEAST, [1, 2])
        told.clear()
        self.assertEqual(in_order(LEAST, [1, 2]), [1, 2])
        for flags in range(32):
            told = flag_words(flags)
            wanted = list(told)
            told.append("more")
            self.assertEqual(flag_words(flags), wanted)

    def test_the_same_asked_twice(self):
        for shape in (LEAST, (5, 10), GREATEST):
            for row in (0, 1, last_size(shape) - 1, end_row(shape, 1)):
                for deed in (shown, root, lambda shape, row: total(shape, [row] * 3)):
                    self.assertEqual(deed(shape, row), deed(shape, row))

    def test_a_desk_s_answers_stay(self):
        desk = Desk(2, 2)
        desk.say("put a 1")
        names = desk.say("names")
        desk.say("put b 1")
        self.assertEqual(names, "a")


class TestWaysLeftOut(unittest.TestCase):
    def test_even(self):
        shape, one, third = (3, 4), 0x31, 0x01
        told = [
            (rounded, (shape, 0, 33, 32)), (plus, (shape, 0x60, 0x41)), (minus, (shape, 0x60, 0x41)),
            (times, (shape, one, one)), (one_step, (shape, one, one, third)), (quotient, (shape, one, 0x35)),
            (root, (shape, 0x40)), (from_whole, (shape, 100)), (to_whole, (shape, 0x38)), (moved, (shape, one, LEAST)),
            (through, (shape, (4, 9), "plus", 0x60, 0x41)), (harmless, (shape, (3, 5), "plus")),
            (read, (shape, "1.03125")), (read_sixteen, (shape, "x1.08r0")), (total, (shape, [0x60, 0x41])),
            (dots, (shape, [(one, one)])),
        ]
        for deed, things in told:
            self.assertEqual(deed(*things), deed(*things, "even"))
            self.assertEqual(deed(*things), deed(*things, way="even"))
            self.assertTrue(any(deed(*things) != deed(*things, way) for way in WAYS))

    def test_signs(self):
        for sign in SIGNS:
            self.assertEqual(rounded(LEAST, sign, 0, 1), (signed_row(LEAST, sign, 0), 0))


if __name__ == "__main__":
    unittest.main()
