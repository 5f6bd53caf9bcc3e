"""Exact worths: heights in units, fractions, and numbers held against one another."""

from nearfold.bits import end_size, is_number, ones, row_of, sign_of, size_of
from nearfold.errors import NoNumber


def grain_of(shape):
    """The grain: all numbers of the shape are whole multiples of 1 / 2 ** grain."""
    e, m = shape
    return m + (1 << (e - 1)) - 2


def height_of(shape, size):
    """The units of a size; that of the end's size is the first one beyond all numbers."""
    m = shape[1]
    rank = size >> m
    body = size & ones(m)
    if rank == 0:
        return body
    return ((1 << m) + body) << (rank - 1)


def size_below(shape, many):
    """The greatest size whose height is at most many units, going on by the same rule
    beyond the end's size."""
    m = shape[1]
    # A height has m + 1 places and noughts behind them; what is more of many is cut.
    cut = max(many.bit_length() - (m + 1), 0)
    return (cut << m) + (many >> cut)


def units_of(shape, bits):
    """The units of a number, below 0 where its sign is 1, or NoNumber."""
    if not is_number(shape, bits):
        raise NoNumber("only numbers have units")
    height = height_of(shape, size_of(shape, bits))
    return -height if sign_of(shape, bits) == 1 else height


def worth_of(shape, bits):
    """The worth of a number as a fraction in lowest terms, or NoNumber."""
    return lowest(units_of(shape, bits), 1 << grain_of(shape))


def by_units(shape, sign, many):
    """The number of this sign with just so many units, or None."""
    size = size_below(shape, many)
    if size >= end_size(shape) or height_of(shape, size) != many:
        return None
    return row_of(shape, sign, size)


def common_part(one, other):
    """The greatest whole number that divides both; one is from 0 on, other from 1 on."""
    while one > 0:
        one, other = other % one, one
    return other


def lowest(top, bottom):
    """The fraction top / bottom in lowest terms, bottom from 1 on."""
    part = common_part(abs(top), bottom)
    return (top // part, bottom // part)


def compared(one, other):
    """-1, 0 or 1 as the one whole number is less than the other, alike, or more."""
    if one < other:
        return -1
    return 1 if one > other else 0


def held(shape, one, other):
    """-1, 0 or 1 as the one number's worth is less than the other's, alike, or more."""
    return compared(units_of(shape, one), units_of(shape, other))
