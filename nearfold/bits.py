"""The bits of a shape: their parts and kinds, nones, told ones, the ladder."""

from nearfold.errors import NoBits, NoNumber, NoParts
from nearfold.shapes import is_within


def ones(many):
    """The whole number of so many places, each of them 1."""
    return (1 << many) - 1


def parts_of(shape, bits):
    """The tuple (sign, rank, body) of bits, or NoBits."""
    e, m = shape
    if not is_within(bits, 0, ones(1 + e + m)):
        raise NoBits("no bits of this shape")
    return (bits >> (e + m), (bits >> m) & ones(e), bits & ones(m))


def joined(shape, sign, rank, body):
    """The bits of a sign, a rank and a body, or NoParts."""
    e, m = shape
    if not is_within(sign, 0, 1):
        raise NoParts("the sign is not 0 or 1")
    if not is_within(rank, 0, ones(e)):
        raise NoParts("the rank is none of this shape")
    if not is_within(body, 0, ones(m)):
        raise NoParts("the body is none of this shape")
    return row_of(shape, sign, (rank << m) + body)


def sign_of(shape, bits):
    """The sign of bits."""
    e, m = shape
    return bits >> (e + m)


def size_of(shape, bits):
    """The size of bits: what is left of them without the sign."""
    e, m = shape
    return bits & ones(e + m)


def row_of(shape, sign, size):
    """The bits that have this sign and this size."""
    e, m = shape
    return (sign << (e + m)) + size


def end_size(shape):
    """The size of both ends: all numbers lie below it, all nones above it."""
    e, m = shape
    return ones(e) << m


def still_place(shape):
    """The worth of the body's greatest place, which still nones have and loud ones lack."""
    return 1 << (shape[1] - 1)


def crossed_sign(shape, one, other):
    """The sign of a product or a quotient of two: 1 just where their signs are unlike."""
    return sign_of(shape, one) ^ sign_of(shape, other)


def kind_of(shape, bits):
    """The word of the kind of bits, one of six."""
    sign, rank, body = parts_of(shape, bits)
    if rank == 0:
        return "nought" if body == 0 else "small"
    if rank < ones(shape[0]):
        return "plain"
    if body == 0:
        return "end"
    return "loud" if body < still_place(shape) else "still"


def is_none(shape, bits):
    """Whether bits are a none, loud or still."""
    return size_of(shape, bits) > end_size(shape)


def is_number(shape, bits):
    """Whether bits are a number: neither an end nor a none."""
    return size_of(shape, bits) < end_size(shape)


def is_nought(shape, bits):
    """Whether bits are a nought of either sign."""
    return size_of(shape, bits) == 0


def is_end(shape, bits):
    """Whether bits are an end of either sign."""
    return size_of(shape, bits) == end_size(shape)


def mark_of(shape, bits):
    """The mark of a none: its body without the greatest place."""
    return bits & (still_place(shape) - 1)


def none_of(shape, sign, mark, loud=False):
    """The none of a sign and a mark, still unless it is told to be loud, or NoParts."""
    if not is_within(mark, 0, still_place(shape) - 1):
        raise NoParts("the mark is none of this shape")
    if loud and mark == 0:
        raise NoParts("a loud one of mark 0 would be an end")
    body = mark if loud else still_place(shape) + mark
    return joined(shape, sign, ones(shape[0]), body)


def told_none(shape):
    """The told none: the still one of sign 0 and mark 0."""
    return none_of(shape, 0, 0)


def stilled(shape, bits):
    """The still one of a loud one; all other bits as they are."""
    if kind_of(shape, bits) == "loud":
        return bits + still_place(shape)
    return bits


def nought_of(shape, sign):
    """The nought of this sign."""
    return row_of(shape, sign, 0)


def least_of(shape, sign):
    """The number of this sign that lies next to nought."""
    return row_of(shape, sign, 1)


def greatest_of(shape, sign):
    """The number of this sign that lies next to the end."""
    return row_of(shape, sign, end_size(shape) - 1)


def end_of(shape, sign):
    """The end of this sign."""
    return row_of(shape, sign, end_size(shape))


def turned(shape, bits):
    """The bits of the other sign and the same size."""
    return row_of(shape, 1 - sign_of(shape, bits), size_of(shape, bits))


def next_up(shape, bits):
    """The bits next above these on the ladder, or NoNumber of nones."""
    if is_none(shape, bits):
        raise NoNumber("a none does not stand on the ladder")
    size = size_of(shape, bits)
    if size == 0:
        # Both noughts are one rung: the nought of sign 0 is not above that of sign 1.
        return least_of(shape, 0)
    if sign_of(shape, bits) == 1:
        return row_of(shape, 1, size - 1)
    return row_of(shape, 0, min(size + 1, end_size(shape)))


def next_down(shape, bits):
    """The bits next below these on the ladder, or NoNumber of nones."""
    return turned(shape, next_up(shape, turned(shape, bits)))
