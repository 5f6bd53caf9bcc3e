"""Orders: how two rows of bits stand, their places, the lower and the higher one."""

from nearfold.bits import is_none, is_nought, ones, row_of, sign_of, size_of
from nearfold.errors import NoBits
from nearfold.nones import none_among
from nearfold.shapes import is_within


def order_of(shape, one, other):
    """The word of how the one stands to the other."""
    if is_none(shape, one) or is_none(shape, other):
        return "apart"
    if one == other or (is_nought(shape, one) and is_nought(shape, other)):
        return "same"
    return "less" if place_of(shape, one) < place_of(shape, other) else "more"


def place_of(shape, bits):
    """The place of bits: numbers and ends lie by their order."""
    if sign_of(shape, bits) == 1:
        return -1 - size_of(shape, bits)
    return bits


def by_place(shape, place):
    """The bits of a place, or NoBits."""
    e, m = shape
    greatest = ones(e + m)
    if not is_within(place, -1 - greatest, greatest):
        raise NoBits("no place of this shape")
    if place < 0:
        return row_of(shape, 1, -1 - place)
    return place


def in_order(shape, rows):
    """A new list of the rows, sorted by their places."""
    return sorted(rows, key=lambda bits: place_of(shape, bits))


def lower(shape, one, other):
    """The one of two with the lower place, as a tuple (bits, flags)."""
    told = none_among(shape, [one, other])
    return (in_order(shape, [one, other])[0], 0) if told is None else told


def higher(shape, one, other):
    """The one of two with the higher place, as a tuple (bits, flags)."""
    told = none_among(shape, [one, other])
    return (in_order(shape, [one, other])[1], 0) if told is None else told
