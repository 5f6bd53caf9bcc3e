"""What the tests share: shapes, wrong things, and the document's rules told another way."""

import random
import struct
from fractions import Fraction
from functools import lru_cache

LEAST = (2, 2)
GREATEST = (11, 60)
SMALL_SHAPES = [(2, 2), (2, 3), (3, 2), (3, 4), (4, 3)]
SHAPES = SMALL_SHAPES + [(2, 60), (5, 10), (8, 23), (11, 2), (11, 52), (11, 60)]

# Neither of these is a whole number, whatever it looks like.
NO_WHOLES = [True, False, "", "1", "even", None, [], [1], (), (1,), {}, b"1", object()]


def row_count(shape):
    """How many bits a shape has, by counting its places."""
    return 2 ** (1 + shape[0] + shape[1])


def all_bits(shape):
    return range(row_count(shape))


def places(shape, bits):
    """The sign, rank and body of bits, read off the written places."""
    e, m = shape
    text = format(bits, "b").zfill(1 + e + m)
    assert len(text) == 1 + e + m
    return int(text[0], 2), int(text[1:1 + e], 2), int(text[1 + e:], 2)


def written(shape, sign, rank, body):
    """Bits, put together from written places."""
    e, m = shape
    text = format(sign, "b") + format(rank, "b").zfill(e) + format(body, "b").zfill(m)
    assert len(text) == 1 + e + m
    return int(text, 2)


def end_row(shape, sign):
    return written(shape, sign, 2 ** shape[0] - 1, 0)


@lru_cache(maxsize=None)
def measure(shape, size):
    """The exact measure of a size as a power of two times one and a fraction."""
    e, m = shape
    middle = 2 ** (e - 1) - 1
    rank, body = divmod(size, 2 ** m)
    if rank == 0:
        return Fraction(body, 2 ** m) * Fraction(2) ** (1 - middle)
    return (1 + Fraction(body, 2 ** m)) * Fraction(2) ** (rank - middle)


WAYS = ("even", "off", "in", "up", "down")
NEAR, FAINT, OVER, VOID, ODD = 1, 2, 4, 8, 16
SIGNS = (0, 1)


def signed_row(shape, sign, size):
    return written(shape, sign, *divmod(size, 2 ** shape[1]))


def last_size(shape):
    """K: the size of the ends."""
    return end_row(shape, 0)


def size_before(shape, exact):
    """The greatest size below K whose measure is exact at most, found by halving."""
    low, high = 0, last_size(shape)
    while high - low > 1:
        amid = (low + high) // 2
        if measure(shape, amid) <= exact:
            low = amid
        else:
            high = amid
    return low


def goes_to_greater(sign, low, high, odd, exact, way):
    """Which of two measures a way takes, told by distances and directions."""
    if way == "in":
        return False
    if way == "up":
        return sign == 0
    if way == "down":
        return sign == 1
    if exact - low != high - exact:
        return exact - low > high - exact
    return way == "off" or odd


@lru_cache(maxsize=None)
def model_rounded(shape, sign, exact, way):
    """Point 16, told over fractions: (bits, flags)."""
    last = last_size(shape)
    if exact >= measure(shape, last):
        to_end = way in ("even", "off") or (way, sign) in (("up", 0), ("down", 1))
        return signed_row(shape, sign, last if to_end else last - 1), NEAR | OVER
    size = size_before(shape, exact)
    low, high = measure(shape, size), measure(shape, size + 1)
    if low == exact:
        return signed_row(shape, sign, size), 0
    if goes_to_greater(sign, low, high, size % 2 == 1, exact, way):
        size += 1
    flags = NEAR
    if exact < measure(shape, 2 ** shape[1]):
        flags |= FAINT
    if size == last:
        flags |= OVER
    return signed_row(shape, sign, size), flags


def kind_word(shape, bits):
    """Point 9, read off the written places."""
    sign, rank, body = places(shape, bits)
    if rank == 0:
        return "small" if body else "nought"
    if rank < 2 ** shape[0] - 1:
        return "plain"
    if not body:
        return "end"
    return "still" if format(body, "b").zfill(shape[1])[0] == "1" else "loud"


def exact_of(shape, bits):
    """The exact worth of a number."""
    sign, rank, body = places(shape, bits)
    return (-1) ** sign * measure(shape, rank * 2 ** shape[1] + body)


def edge_rows(shape):
    """Rows of both signs: noughts, numbers at the edges, ends and nones."""
    e, m = shape
    one, last, half = (2 ** (e - 1) - 1) * 2 ** m, last_size(shape), 2 ** (m - 1)
    sizes = [0, 1, 2, 3, 2 ** m - 1, 2 ** m, 2 ** m + 1, one - 1, one, one + 1, one + half,
             one + half + 1, one + 2 ** m - 1, last - 2, last - 1]
    nones = [last + 1, last + half - 1, last + half, last + half + 1, last + 2 ** m - 1]
    return [signed_row(shape, sign, size)
            for size in sorted(set(sizes)) + [last] + sorted(set(nones)) for sign in SIGNS]


def edge_numbers(shape):
    return [row for row in edge_rows(shape) if row % 2 ** sum(shape) < last_size(shape)]


class PairTests:
    """Two tests for each test case that says by check(shape, one, other) what holds of a pair."""

    def test_all_pairs_of_small_shapes(self):
        for shape in [(2, 2), (2, 3), (3, 2)]:
            for one in all_bits(shape):
                for other in all_bits(shape):
                    self.check(shape, one, other)

    def test_pairs_at_the_edges_of_greater_shapes(self):
        for shape in SHAPES[3:]:
            rows = edge_rows(shape)
            for one in rows:
                for other in rows:
                    self.check(shape, one, other)


def odd_row(shape):
    """What is told where it is odd: the still one of sign 0 and mark 0, with its flag."""
    return written(shape, 0, 2 ** shape[0] - 1, 2 ** (shape[1] - 1)), ODD


def model_none(shape, rows):
    """Point 17: what nones give, or None."""
    words = [kind_word(shape, row) for row in rows]
    for row, word in zip(rows, words):
        if word in ("loud", "still"):
            sign, rank, body = places(shape, row)
            bits = written(shape, sign, rank, body | 2 ** (shape[1] - 1))
            return bits, ODD if "loud" in words else 0
    return None


def model_sum(shape, parts, way):
    """Points 18, 20 and 36, of a list of pairs (sign, Fraction, or None for an end)."""
    ends = {sign for sign, part in parts if part is None}
    if ends:
        return odd_row(shape) if len(ends) == 2 else (end_row(shape, ends.pop()), 0)
    exact = sum(part for sign, part in parts)
    if exact != 0:
        return model_rounded(shape, int(exact < 0), abs(exact), way)
    signs = {sign for sign, part in parts} or {0}
    sign = signs.pop() if len(signs) == 1 else int(way == "down")
    return signed_row(shape, sign, 0), 0


def part_of(shape, row):
    """A number or an end as model_sum takes it."""
    exact = exact_of(shape, row) if kind_word(shape, row) != "end" else None
    return places(shape, row)[0], exact


def product_part(shape, one, other):
    """The exact product as model_sum takes it, or "odd"."""
    (one_sign, first), (other_sign, second) = part_of(shape, one), part_of(shape, other)
    sign = int(one_sign != other_sign)
    if first is None or second is None:
        return "odd" if 0 in (first, second) else (sign, None)
    return sign, first * second


def double(value):
    """The bits of one of the machine's own numbers, in the shape (11, 52)."""
    return struct.unpack(">Q", struct.pack(">d", value))[0]


def undoubled(bits):
    return struct.unpack(">d", struct.pack(">Q", bits))[0]


def doubles(seed, many):
    """Bits of numbers of the shape (11, 52), near to one another and far apart, always the
    same ones for a seed."""
    source = random.Random(seed)
    ranks = [0, 1, 2, 500, 1000, 1020, 1022, 1023, 1024, 1025, 1050, 1075, 1500, 2045, 2046]
    bodies = [0, 1, 2, 2 ** 51, 2 ** 52 - 1, 2 ** 52 - 2]
    rows = []
    for turn in range(many):
        sign = source.getrandbits(1)
        rank = ranks[source.getrandbits(16) % len(ranks)]
        body = source.getrandbits(52)
        if turn % 3 == 0:
            body = bodies[source.getrandbits(16) % len(bodies)]
        rows.append(written((11, 52), sign, rank, body))
    return rows


def plain_figures(exact):
    """A measure that is a whole number of halves of halves .. as figures with a point, exactly."""
    top, bottom = exact.numerator, exact.denominator
    behind = bottom.bit_length() - 1
    assert bottom == 2 ** behind
    figures = str(top * 5 ** behind).zfill(behind + 1)
    return figures[:len(figures) - behind] + ("." + figures[-behind:] if behind else "")


def powered_figures(exact):
    """The same with all figures ahead of a power of ten."""
    behind = exact.denominator.bit_length() - 1
    return "{}e-{}".format(exact.numerator * 5 ** behind, behind)


class ReadTests:
    """For test cases that hold what a reader tells against the exact fraction, rounded."""

    def check_read(self, reader, shape, text, exact):
        for way in WAYS:
            for sign in SIGNS:
                told = reader(shape, "-" * sign + text, way)
                self.assertIs(type(told), tuple)
                wanted = model_rounded(shape, sign, exact, way)
                self.assertEqual(told, wanted, (shape, sign, text, way))
