"""Roots, rounded once."""

from nearfold.bits import end_size, is_end, is_nought, row_of, sign_of
from nearfold.nones import none_among, odd_answer
from nearfold.rounding import between, twice_middle
from nearfold.worths import compared, grain_of, height_of, units_of


def root(shape, one, way="even"):
    """The root of one as a tuple (bits, flags)."""
    told = none_among(shape, [one])
    if told is not None:
        return told
    if is_nought(shape, one):
        return (one, 0)
    if sign_of(shape, one) == 1:
        return odd_answer(shape)
    if is_end(shape, one):
        return (one, 0)
    # A root of v units has the square v * v, and the unit has a square of its own.
    return rounded_root(shape, units_of(shape, one) << grain_of(shape), way)


def rounded_root(shape, square, way):
    """The root of a square of units, which lies below the end's height, rounded."""
    size = size_by_square(shape, square)
    if height_of(shape, size) ** 2 == square:
        return (row_of(shape, 0, size), 0)
    side = compared(4 * square, twice_middle(shape, size) ** 2)
    return between(shape, 0, size, side, way)


def size_by_square(shape, square):
    """The greatest size below the end's whose height has a square of at most this."""
    low, high = 0, end_size(shape)
    while high - low > 1:
        amid = (low + high) // 2
        if height_of(shape, amid) ** 2 <= square:
            low = amid
        else:
            high = amid
    return low
