"""Points 28 to 30: bits moved to other shapes, and steps through greater shapes."""

import struct
import unittest

from helper import (
    GREATEST, LEAST, NO_WHOLES, SHAPES, SIGNS, SMALL_SHAPES, WAYS, all_bits, double, doubles,
    edge_numbers, edge_rows, end_row, exact_of, kind_word, last_size, model_rounded,
    places, signed_row, undoubled, written,
)
from nearfold.errors import FoldError, NoStep, NoWord
from nearfold.moves import harmless, holds, moved, through
from nearfold.products import times
from nearfold.quotients import quotient
from nearfold.sums import plus

DEEDS = {"plus": plus, "times": times, "quotient": quotient}
NO_WORDS = [thing for thing in NO_WHOLES if not isinstance(thing, str)] + [
    1, "", "minus", "Plus", "plus ", " plus", "plu", "pluss", "root", "even", ["plus"], ("times",),
    b"plus", {"plus": 1},
]


def model_moved(shape, row, other_shape, way):
    """Point 28, with the body of a none as written places."""
    sign, rank, body = places(shape, row)
    word = kind_word(shape, row)
    if word == "end":
        return end_row(other_shape, sign), 0
    if word in ("loud", "still"):
        text = "1" + format(body, "b").zfill(shape[1])[1:]
        text = text.ljust(other_shape[1], "0")[:other_shape[1]]
        other_rank = 2 ** other_shape[0] - 1
        return written(other_shape, sign, other_rank, int(text, 2)), 16 if word == "loud" else 0
    return model_rounded(other_shape, sign, abs(exact_of(shape, row)), way)


class TestMoved(unittest.TestCase):
    def check(self, shape, row, other_shape):
        for way in WAYS:
            told = moved(shape, row, other_shape, way)
            self.assertIs(type(told), tuple)
            wanted = model_moved(shape, row, other_shape, way)
            self.assertEqual(told, wanted, (shape, row, other_shape, way))

    def test_all_bits_of_small_shapes_to_small_ones(self):
        for shape in SMALL_SHAPES:
            for other_shape in SMALL_SHAPES:
                for row in all_bits(shape):
                    self.check(shape, row, other_shape)

    def test_all_bits_of_small_shapes_to_great_ones(self):
        for shape in SMALL_SHAPES[:4]:
            for other_shape in [(2, 60), (5, 10), (11, 2), (11, 52), GREATEST]:
                for row in all_bits(shape):
                    self.check(shape, row, other_shape)

    def test_edges_of_all_shapes(self):
        for shape in SHAPES[3:]:
            for other_shape in SHAPES:
                for row in edge_rows(shape):
                    self.check(shape, row, other_shape)

    def test_nones_by_hand(self):
        # The body of the shape (3, 4): the greatest place is worth 8.
        told = [
            (0b0_111_0001, (3, 6), 0b0_111_100100, 16), (0b0_111_0111, (3, 6), 0b0_111_111100, 16),
            (0b1_111_1001, (3, 6), 0b1_111_100100, 0), (0b0_111_1000, (2, 5), 0b0_11_10000, 0),
            (0b0_111_0001, (4, 2), 0b0_1111_10, 16), (0b1_111_0111, (4, 2), 0b1_1111_11, 16),
            (0b0_111_1011, (4, 2), 0b0_1111_10, 0), (0b1_111_1111, (2, 3), 0b1_11_111, 0),
            (0b0_111_0011, (5, 4), 0b0_11111_1011, 16), (0b1_111_1011, (3, 4), 0b1_111_1011, 0),
            (0b1_111_0011, (3, 4), 0b1_111_1011, 16),
        ]
        for row, other_shape, bits, flags in told:
            for way in WAYS:
                self.assertEqual(moved((3, 4), row, other_shape, way), (bits, flags))

    def test_ends_and_noughts(self):
        for shape in SHAPES:
            for other_shape in SHAPES:
                for sign in SIGNS:
                    for way in WAYS:
                        told = moved(shape, end_row(shape, sign), other_shape, way)
                        self.assertEqual(told, (end_row(other_shape, sign), 0))
                        told = moved(shape, signed_row(shape, sign, 0), other_shape, way)
                        self.assertEqual(told, (signed_row(other_shape, sign, 0), 0))

    def test_near_faint_and_over_by_hand(self):
        # From (5, 10) to (2, 2): 1 is worth 15 * 1024, and has the size 4 there.
        one = 15 * 1024
        told = [
            (one, "even", 4, 0), (one + 256, "even", 5, 0), (one + 128, "even", 4, 1),
            (one + 128, "off", 5, 1), (one + 128, "in", 4, 1), (one + 128, "up", 5, 1),
            (one + 129, "even", 5, 1), (one + 384, "even", 6, 1), (one + 384, "down", 5, 1),
            (one - 1, "even", 4, 3), (one - 1, "in", 3, 3), (one - 256, "even", 4, 3),
            (one - 512, "even", 3, 0), (one - 1024, "up", 2, 0),
            (1, "even", 0, 3), (1, "up", 1, 3), (1, "down", 0, 3),
            (one + 2 * 1024, "even", 12, 5), (one + 2 * 1024, "in", 11, 5),
            (one + 2 * 1024 - 128, "even", 12, 5), (one + 2 * 1024 - 128, "in", 11, 1),
            (one + 2 * 1024 - 129, "even", 11, 1), (one + 2 * 1024 - 1, "down", 11, 1),
            (one + 2 * 1024 - 1, "up", 12, 5), (31 * 1024 - 1, "off", 12, 5),
        ]
        for row, way, bits, flags in told:
            self.assertEqual(moved((5, 10), row, LEAST, way), (bits, flags), (row, way))
            turned_way = {"up": "down", "down": "up"}.get(way, way)
            self.assertEqual(moved((5, 10), row + 2 ** 15, LEAST, turned_way), (bits + 16, flags))

    def test_the_machine_s_own(self):
        for row in doubles(28, 3000):
            value = undoubled(row)
            for shape, letter, whole in [((8, 23), "f", "I"), ((5, 10), "e", "H")]:
                try:
                    data = struct.pack(">" + letter, value)
                except OverflowError:
                    wanted = end_row(shape, int(value < 0))
                else:
                    wanted = struct.unpack(">" + whole, data)[0]
                    self.assertEqual(moved(shape, wanted, (11, 52)),
                                     (double(struct.unpack(">" + letter, data)[0]), 0))
                self.assertEqual(moved((11, 52), row, shape)[0], wanted)

    def test_by_name_and_without_a_way(self):
        told = moved(way="off", other_shape=LEAST, bits=15 * 1024 + 128, shape=(5, 10))
        self.assertEqual(told, (5, 1))
        self.assertEqual(moved((5, 10), 15 * 1024 + 128, LEAST), (4, 1))


class TestHolds(unittest.TestCase):
    def test_bounds(self):
        told = [
            ((2, 2), (2, 2), True), ((11, 60), (11, 60), True), ((11, 60), (2, 2), True),
            ((2, 2), (11, 60), False), ((4, 4), (4, 5), False), ((4, 5), (4, 4), True),
            ((4, 4), (5, 4), False), ((5, 4), (4, 4), True), ((5, 4), (4, 5), False),
            ((4, 5), (5, 4), False), ((2, 60), (11, 2), False), ((11, 2), (2, 60), False),
        ]
        for great, small, answer in told:
            self.assertIs(holds(great, small), answer, (great, small))
        self.assertIs(holds(small=(2, 2), great=(2, 3)), True)

    def test_there_and_back(self):
        for small in SMALL_SHAPES:
            for great in SHAPES:
                if holds(great, small):
                    for row in all_bits(small):
                        if kind_word(small, row) in ("loud", "still"):
                            continue
                        for way in WAYS:
                            bits, flags = moved(small, row, great, way)
                            self.assertEqual(flags, 0)
                            self.assertEqual(moved(great, bits, small, way), (row, 0))

    def test_edges_there_and_back(self):
        for small in SHAPES:
            for great in SHAPES:
                if holds(great, small):
                    for row in edge_numbers(small):
                        bits, flags = moved(small, row, great)
                        self.assertEqual(exact_of(great, bits), exact_of(small, row))
                        self.assertEqual((flags, moved(great, bits, small)), (0, (row, 0)))

    def test_what_is_not_held_loses_a_number(self):
        for great in SHAPES:
            for small in SHAPES:
                if not holds(great, small):
                    rows = [moved(small, row, great) for row in edge_numbers(small)]
                    self.assertTrue(any(flags for bits, flags in rows), (great, small))


def by_steps(small, great, word, one, other, way):
    """The step through a greater shape, one move and one deed at a time."""
    first = moved(small, one, great, way)
    second = moved(small, other, great, way)
    answer = DEEDS[word](great, first[0], second[0], way)
    back = moved(great, answer[0], small, way)
    return back[0], first[1] | second[1] | answer[1] | back[1]


class TestThrough(unittest.TestCase):
    def check(self, small, great, one, other):
        for word in DEEDS:
            for way in WAYS:
                told = through(small, great, word, one, other, way)
                self.assertIs(type(told), tuple)
                wanted = by_steps(small, great, word, one, other, way)
                self.assertEqual(told, wanted, (small, great, word, one, other, way))

    def test_all_pairs_of_the_least_shape(self):
        for great in [(2, 2), (2, 3), (3, 2), (4, 6)]:
            for one in all_bits(LEAST):
                for other in all_bits(LEAST):
                    self.check(LEAST, great, one, other)

    def test_edges(self):
        for small, great in [((3, 4), (3, 5)), ((5, 10), (8, 23)), ((11, 52), GREATEST),
                             ((2, 60), GREATEST), (GREATEST, GREATEST)]:
            rows = edge_rows(small)
            for one in rows[::2]:
                for other in rows[1::2]:
                    self.check(small, great, one, other)

    def test_flags_of_all_four(self):
        # In (3, 4): the end is 0x70, 1 is 0x30, 3 is 0x48, the sign is 0x80.
        told = [
            ("plus", 0x71, 0x30, 0x79, 16), ("plus", 0x79, 0x71, 0x79, 16),
            ("plus", 0x79, 0x30, 0x79, 0), ("plus", 0x30, 0xf3, 0xfb, 16),
            ("plus", 0x70, 0xf0, 0x78, 16), ("quotient", 0x30, 0x00, 0x70, 8),
            ("quotient", 0x30, 0x48, 0x15, 1), ("times", 0x70, 0x00, 0x78, 16),
            ("quotient", 0x00, 0x00, 0x78, 16), ("times", 0x6f, 0x6f, 0x70, 5),
            ("times", 0x01, 0x01, 0x00, 3), ("plus", 0x30, 0x48, 0x50, 0),
        ]
        for word, one, other, bits, flags in told:
            for great in [(3, 4), (4, 9), (11, 60)]:
                told_bits, told_flags = through((3, 4), great, word, one, other)
                self.assertEqual((told_bits, told_flags), (bits, flags), (word, one, other, great))

    def test_a_sum_that_is_near_on_the_way_only(self):
        # 2 ** 3 + 2 ** -7 in (3, 4): near in (3, 5), and exact where it is moved back.
        told = through((3, 4), (3, 5), "plus", 0x60, 0x01)
        self.assertEqual(told, (0x60, 1))
        # Over in both moves: the greatest number of the great shape is over in the small one.
        told = through((3, 4), (4, 4), "times", 0x6f, 0x6f, "in")
        self.assertEqual(told, (0x6f, 5))

    def test_two_roundings_are_kept(self):
        told = harmless((3, 4), (3, 5), "plus")[1]
        self.assertNotEqual(through((3, 4), (3, 5), "plus", *told)[0], plus((3, 4), *told)[0])

    def test_by_name_and_without_a_way(self):
        told = through(way="up", other=0x48, one=0x30, word="quotient", great=(4, 9), small=(3, 4))
        self.assertEqual(told, (0x16, 1))
        self.assertEqual(through((3, 4), (4, 9), "quotient", 0x30, 0x48), (0x15, 1))


class TestRefusals(unittest.TestCase):
    def refuse(self, refusal, small, great, word):
        for way in WAYS:
            with self.assertRaises(refusal) as caught:
                through(small, great, word, 0, 0, way)
            self.assertIs(type(caught.exception), refusal)
            self.assertIsInstance(caught.exception, FoldError)
            with self.assertRaises(refusal) as caught:
                harmless(small, great, word, way)
            self.assertIs(type(caught.exception), refusal)

    def test_no_step(self):
        for small, great in [((3, 4), (3, 3)), ((3, 4), (2, 4)), ((3, 4), (2, 60)),
                             ((3, 4), (11, 3)), ((3, 3), (2, 2)), (GREATEST, (11, 59)),
                             (GREATEST, (10, 60))]:
            for word in DEEDS:
                self.refuse(NoStep, small, great, word)

    def test_no_word(self):
        for word in NO_WORDS:
            self.refuse(NoWord, (3, 4), (3, 4), word)
            self.refuse(NoWord, (3, 4), (4, 9), word)

    def test_no_step_goes_ahead(self):
        for word in NO_WORDS:
            self.refuse(NoStep, (3, 4), (3, 3), word)
            self.refuse(NoStep, (3, 4), (2, 4), word)


def model_harmless(small, great, word, way):
    """The word of point 30, clause by clause."""
    (e, m), (E, M) = small, great
    if way in ("in", "up", "down") or small == great:
        return "harmless"
    if word == "plus":
        harmful = M > m and M <= 2 * m + 1 and e >= 3 and M - m <= 2 ** e - 4
        return "harmful" if harmful else "harmless"
    return "harmless" if M >= 2 * m + 1 and E >= e + 1 else "open"


class TestHarmless(unittest.TestCase):
    def check(self, small, great, word, way):
        where = (small, great, word, way)
        told = harmless(small, great, word, way)
        self.assertIs(type(told), tuple)
        answer, pair = told
        self.assertEqual(answer, model_harmless(small, great, word, way), where)
        if answer != "harmful":
            self.assertIsNone(pair, where)
            return
        self.assertIs(type(pair), tuple, where)
        one, other = pair
        for row in pair:
            self.assertIs(type(row), int)
            self.assertIn(row, range(2 ** (1 + sum(small))), where)
        step = through(small, great, word, one, other, way)
        straight = DEEDS[word](small, one, other, way)
        self.assertNotEqual(step[0], straight[0], where)
        exact = exact_of(small, one) + exact_of(small, other)
        self.assertEqual(straight, model_rounded(small, 0, exact, way), where)

    def test_at_the_bounds(self):
        for e in range(2, 12):
            for m in [2, 3, 4, 5, 6, 7, 8, 12, 13, 14, 28, 29, 30, 31, 47, 48, 49, 58, 59, 60]:
                bounds = {m, m + 1, m + 2, m + 3, 2 * m, 2 * m + 1, 2 * m + 2, 2 * m + 3,
                          m + 2 ** e - 5, m + 2 ** e - 4, m + 2 ** e - 3, m + 2 ** e - 2, 60}
                for M in sorted(bound for bound in bounds if m <= bound <= 60):
                    for E in sorted({e, min(e + 1, 11), min(e + 2, 11), 11}):
                        for word in DEEDS:
                            for way in WAYS:
                                self.check((e, m), (E, M), word, way)

    def test_words_by_hand(self):
        told = [
            ((3, 4), (3, 4), "plus", "even", "harmless"), ((3, 4), (4, 4), "plus", "even", "harmless"),
            ((3, 4), (3, 5), "plus", "even", "harmful"), ((3, 4), (3, 5), "plus", "off", "harmful"),
            ((3, 4), (3, 8), "plus", "even", "harmful"), ((3, 4), (3, 9), "plus", "even", "harmless"),
            ((3, 3), (3, 7), "plus", "off", "harmful"), ((3, 3), (3, 8), "plus", "off", "harmless"),
            ((4, 3), (4, 7), "plus", "even", "harmful"), ((4, 3), (4, 8), "plus", "even", "harmless"),
            ((2, 3), (2, 4), "plus", "even", "harmless"), ((2, 2), (11, 3), "plus", "off", "harmless"),
            ((8, 23), (11, 47), "plus", "even", "harmful"), ((8, 23), (11, 48), "plus", "even", "harmless"),
            ((8, 23), (11, 52), "plus", "off", "harmless"), ((8, 23), (11, 52), "times", "even", "harmless"),
            ((8, 23), (9, 47), "times", "even", "harmless"), ((8, 23), (9, 46), "times", "even", "open"),
            ((8, 23), (8, 47), "quotient", "off", "open"), ((8, 23), (9, 47), "quotient", "off", "harmless"),
            ((8, 23), (8, 24), "times", "in", "harmless"), ((8, 23), (8, 24), "quotient", "up", "harmless"),
            ((8, 23), (8, 24), "plus", "down", "harmless"), ((8, 23), (8, 23), "times", "even", "harmless"),
            ((8, 23), (8, 23), "quotient", "off", "harmless"), ((11, 52), (11, 60), "plus", "even", "harmful"),
            ((11, 59), (11, 60), "plus", "even", "harmful"), ((11, 59), (11, 60), "plus", "off", "harmful"),
            ((11, 60), (11, 60), "plus", "even", "harmless"), ((10, 29), (11, 60), "plus", "even", "harmless"),
            ((10, 30), (11, 60), "plus", "even", "harmful"), ((10, 29), (11, 59), "times", "even", "harmless"),
            ((11, 29), (11, 60), "times", "even", "open"),
        ]
        for small, great, word, way, answer in told:
            self.assertEqual(harmless(small, great, word, way)[0], answer, (small, great, word, way))
            self.check(small, great, word, way)

    def test_by_name_and_without_a_way(self):
        self.assertEqual(harmless(way="in", word="plus", great=(3, 5), small=(3, 4)), ("harmless", None))
        self.assertEqual(harmless((3, 4), (3, 5), "plus")[0], "harmful")
        one, other = harmless((3, 4), (3, 5), "plus")[1]
        self.assertNotEqual(through((3, 4), (3, 5), "plus", one, other)[0], plus((3, 4), one, other)[0])


class TestHarmlessIsSo(unittest.TestCase):
    """What is told harmless does no harm to any two rows."""

    def seen(self, small, great, word, way, pairs):
        self.assertEqual(harmless(small, great, word, way), ("harmless", None))
        for one, other in pairs:
            step = through(small, great, word, one, other, way)
            straight = DEEDS[word](small, one, other, way)
            self.assertEqual(step[0], straight[0], (small, great, word, way, one, other))

    def test_the_least_shape(self):
        pairs = [(one, other) for one in all_bits(LEAST) for other in all_bits(LEAST)]
        for great in [(2, 2), (2, 3), (2, 5), (3, 3), (3, 4), (3, 5), (4, 6)]:
            for word in DEEDS:
                for way in WAYS:
                    if model_harmless(LEAST, great, word, way) == "harmless":
                        self.seen(LEAST, great, word, way, pairs)

    def test_sums_to_the_nearer_one(self):
        for small, greats in [((2, 3), [(2, 4), (3, 5)]), ((3, 2), [(3, 6), (4, 2)])]:
            pairs = [(one, other) for one in all_bits(small) for other in all_bits(small)]
            for great in greats:
                for way in ("even", "off"):
                    self.seen(small, great, "plus", way, pairs)

    def test_sums_that_are_exact_on_the_way(self):
        # M - m is 2 ** e - 3, and M is 2 m + 1 at most.
        last = last_size((3, 4))
        pairs = [(one, signed_row((3, 4), sign, other))
                 for one in range(last) for other in range(one + 1) for sign in SIGNS]
        self.seen((3, 4), (3, 9), "plus", "even", pairs)

    def test_products_and_quotients(self):
        for small, great in [((2, 3), (3, 7)), ((3, 2), (4, 5))]:
            pairs = [(one, other) for one in all_bits(small) for other in all_bits(small)]
            for word in ("times", "quotient"):
                for way in ("even", "off"):
                    self.seen(small, great, word, way, pairs)

    def test_edges_of_greater_shapes(self):
        for small, great in [((5, 10), (6, 21)), ((5, 10), (8, 23)), ((8, 23), (11, 52)),
                             ((10, 29), (11, 59)), ((4, 29), (5, 60))]:
            rows = edge_rows(small)
            pairs = [(one, other) for one in rows[::2] for other in rows]
            for word in DEEDS:
                for way in ("even", "off", "up"):
                    if model_harmless(small, great, word, way) == "harmless":
                        self.seen(small, great, word, way, pairs)

    def test_many_products_and_quotients(self):
        small, great = (5, 10), (6, 21)
        one = 15 * 1024
        pairs = [(one + body, one + other) for body in range(1, 1024, 30) for other in range(1, 1024, 7)]
        self.seen(small, great, "times", "even", pairs)
        self.seen(small, great, "quotient", "even", pairs)


if __name__ == "__main__":
    unittest.main()
