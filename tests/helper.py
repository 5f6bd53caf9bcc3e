"""What the tests share: shapes, wrong things, and the document's rules told another way."""

from fractions import Fraction

LEAST = (2, 2)
GREATEST = (11, 60)
SMALL_SHAPES = [(2, 2), (2, 3), (3, 2), (3, 4), (4, 3)]
SHAPES = SMALL_SHAPES + [(2, 60), (5, 10), (8, 23), (11, 2), (11, 52), (11, 60)]

# Neither of these is a whole number, whatever it looks like.
NO_WHOLES = [True, False, "", "1", "even", None, [], [1], (), (1,), {}, b"1", object()]


def row_count(shape):
    """How many bits a shape has, by counting its places."""
    return 2 ** (1 + shape[0] + shape[1])


def all_bits(shape):
    return range(row_count(shape))


def places(shape, bits):
    """The sign, rank and body of bits, read off the written places."""
    e, m = shape
    text = format(bits, "b").zfill(1 + e + m)
    assert len(text) == 1 + e + m
    return int(text[0], 2), int(text[1:1 + e], 2), int(text[1 + e:], 2)


def written(shape, sign, rank, body):
    """Bits, put together from written places."""
    e, m = shape
    text = format(sign, "b") + format(rank, "b").zfill(e) + format(body, "b").zfill(m)
    assert len(text) == 1 + e + m
    return int(text, 2)


def end_row(shape, sign):
    return written(shape, sign, 2 ** shape[0] - 1, 0)


def measure(shape, size):
    """The exact measure of a size as a power of two times one and a fraction."""
    e, m = shape
    middle = 2 ** (e - 1) - 1
    rank, body = divmod(size, 2 ** m)
    if rank == 0:
        return Fraction(body, 2 ** m) * Fraction(2) ** (1 - middle)
    return (1 + Fraction(body, 2 ** m)) * Fraction(2) ** (rank - middle)
