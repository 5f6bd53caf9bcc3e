"""An exact measure, rounded once by a way."""

from nearfold.bits import end_of, end_size, greatest_of, row_of
from nearfold.flags import FAINT, NEAR, OVER
from nearfold.ways import way_of
from nearfold.worths import compared, grain_of, height_of, size_below


def rounded(shape, sign, top, bottom, way="even"):
    """The tuple (bits, flags) of the measure top / bottom with a sign, rounded by a way."""
    asked = way_of(way)
    scaled = top << grain_of(shape)
    units, rest = divmod(scaled, bottom)
    size = size_below(shape, units)
    if size >= end_size(shape):
        return beyond(shape, sign, asked)
    if rest == 0 and units == height_of(shape, size):
        return (row_of(shape, sign, size), 0)
    side = side_of(shape, size, scaled, bottom)
    told = size + 1 if asked.goes_on(sign, size % 2 == 1, side) else size
    return (row_of(shape, sign, told), between_flags(shape, units, told))


def beyond(shape, sign, asked):
    """The answer for a measure at the height of the end's size or above it."""
    if asked.ends(sign):
        return (end_of(shape, sign), NEAR | OVER)
    return (greatest_of(shape, sign), NEAR | OVER)


def side_of(shape, size, scaled, bottom):
    """-1, 0 or 1 as scaled / bottom units lie below the middle of a size and the next one,
    just there, or above it."""
    both = height_of(shape, size) + height_of(shape, size + 1)
    return compared(2 * scaled, both * bottom)


def between_flags(shape, units, told):
    """The flags of a measure between two sizes, which lay whole units or a little above
    them, and was rounded to the size told."""
    flags = NEAR
    if units < (1 << shape[1]):
        flags |= FAINT
    if told == end_size(shape):
        flags |= OVER
    return flags
