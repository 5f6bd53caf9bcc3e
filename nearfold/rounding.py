"""An exact measure, rounded once by a way."""

from nearfold.bits import end_of, end_size, greatest_of, row_of
from nearfold.flags import FAINT, NEAR, OVER
from nearfold.ways import way_of
from nearfold.worths import compared, grain_of, height_of, size_below


def rounded(shape, sign, top, bottom, way="even"):
    """The tuple (bits, flags) of the measure top / bottom with a sign, rounded by a way."""
    scaled = top << grain_of(shape)
    units, rest = divmod(scaled, bottom)
    size = size_below(shape, units)
    if size >= end_size(shape):
        return beyond(shape, sign, way)
    if rest == 0 and units == height_of(shape, size):
        return (row_of(shape, sign, size), 0)
    side = compared(2 * scaled, twice_middle(shape, size) * bottom)
    return between(shape, sign, size, side, way)


def twice_middle(shape, size):
    """Twice the units of the middle between a size and the next one."""
    return height_of(shape, size) + height_of(shape, size + 1)


def beyond(shape, sign, way):
    """The answer for a measure at the height of the end's size or above it."""
    if way_of(way).ends(sign):
        return (end_of(shape, sign), NEAR | OVER)
    return (greatest_of(shape, sign), NEAR | OVER)


def between(shape, sign, size, side, way):
    """The answer for a measure between a size and the next one, on a side of their middle."""
    told = size + 1 if way_of(way).goes_on(sign, size % 2 == 1, side) else size
    flags = NEAR
    # Sizes below the least plain one are as many units, so the size tells it of the measure.
    if size < (1 << shape[1]):
        flags |= FAINT
    if told == end_size(shape):
        flags |= OVER
    return (row_of(shape, sign, told), flags)


def rounded_whole(sign, top, bottom, way):
    """The measure top / bottom with a sign, as a whole number rounded by a way, and flags."""
    whole, rest = divmod(top, bottom)
    flags = 0 if rest == 0 else NEAR
    side = compared(2 * rest, bottom)
    if rest > 0 and way_of(way).goes_on(sign, whole % 2 == 1, side):
        whole += 1
    return (-whole if sign == 1 else whole, flags)
