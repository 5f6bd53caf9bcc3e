"""From whole numbers to rows of bits, and from numbers to whole numbers."""

from nearfold.bits import is_number, kind_of, sign_of
from nearfold.errors import NoWhole
from nearfold.rounding import rounded, rounded_whole
from nearfold.worths import grain_of, units_of


def from_whole(shape, number, way="even"):
    """The row of a whole number, rounded by a way, as a tuple (bits, flags)."""
    return rounded(shape, 1 if number < 0 else 0, abs(number), 1, way)


def to_whole(shape, bits, way="even"):
    """A number as a whole number, in a tuple (whole, flags), or NoWhole."""
    if not is_number(shape, bits):
        raise NoWhole(kind_of(shape, bits))
    sign = sign_of(shape, bits)
    return rounded_whole(sign, abs(units_of(shape, bits)), 1 << grain_of(shape), way)
