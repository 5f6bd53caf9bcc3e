"""What the tests share: shapes, wrong things, and the document's rules told another way."""

from fractions import Fraction

LEAST = (2, 2)
GREATEST = (11, 60)
SMALL_SHAPES = [(2, 2), (2, 3), (3, 2), (3, 4), (4, 3)]
SHAPES = SMALL_SHAPES + [(2, 60), (5, 10), (8, 23), (11, 2), (11, 52), (11, 60)]

# Neither of these is a whole number, whatever it looks like.
NO_WHOLES = [True, False, "", "1", "even", None, [], [1], (), (1,), {}, b"1", object()]


def row_count(shape):
    """How many bits a shape has, by counting its places."""
    return 2 ** (1 + shape[0] + shape[1])


def all_bits(shape):
    return range(row_count(shape))


def places(shape, bits):
    """The sign, rank and body of bits, read off the written places."""
    e, m = shape
    text = format(bits, "b").zfill(1 + e + m)
    assert len(text) == 1 + e + m
    return int(text[0], 2), int(text[1:1 + e], 2), int(text[1 + e:], 2)


def written(shape, sign, rank, body):
    """Bits, put together from written places."""
    e, m = shape
    text = format(sign, "b") + format(rank, "b").zfill(e) + format(body, "b").zfill(m)
    assert len(text) == 1 + e + m
    return int(text, 2)


def end_row(shape, sign):
    return written(shape, sign, 2 ** shape[0] - 1, 0)


def measure(shape, size):
    """The exact measure of a size as a power of two times one and a fraction."""
    e, m = shape
    middle = 2 ** (e - 1) - 1
    rank, body = divmod(size, 2 ** m)
    if rank == 0:
        return Fraction(body, 2 ** m) * Fraction(2) ** (1 - middle)
    return (1 + Fraction(body, 2 ** m)) * Fraction(2) ** (rank - middle)


WAYS = ("even", "off", "in", "up", "down")
NEAR, FAINT, OVER = 1, 2, 4


def signed_row(shape, sign, size):
    return written(shape, sign, *divmod(size, 2 ** shape[1]))


def last_size(shape):
    """K: the size of the ends."""
    return end_row(shape, 0)


def size_before(shape, exact):
    """The greatest size below K whose measure is exact at most, found by halving."""
    low, high = 0, last_size(shape)
    while high - low > 1:
        amid = (low + high) // 2
        if measure(shape, amid) <= exact:
            low = amid
        else:
            high = amid
    return low


def goes_to_greater(sign, low, high, odd, exact, way):
    """Which of two measures a way takes, told by distances and directions."""
    if way == "in":
        return False
    if way == "up":
        return sign == 0
    if way == "down":
        return sign == 1
    if exact - low != high - exact:
        return exact - low > high - exact
    return way == "off" or odd


def model_rounded(shape, sign, exact, way):
    """Point 16, told over fractions: (bits, flags)."""
    last = last_size(shape)
    if exact >= measure(shape, last):
        to_end = way in ("even", "off") or (way, sign) in (("up", 0), ("down", 1))
        return signed_row(shape, sign, last if to_end else last - 1), NEAR | OVER
    size = size_before(shape, exact)
    low, high = measure(shape, size), measure(shape, size + 1)
    if low == exact:
        return signed_row(shape, sign, size), 0
    if goes_to_greater(sign, low, high, size % 2 == 1, exact, way):
        size += 1
    flags = NEAR
    if exact < measure(shape, 2 ** shape[1]):
        flags |= FAINT
    if size == last:
        flags |= OVER
    return signed_row(shape, sign, size), flags
