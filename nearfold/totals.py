"""Long sums, and sums of many products, rounded once; sums of two with what is left of them."""

from nearfold.nones import none_among
from nearfold.products import product_part, told_ahead
from nearfold.sums import added, part_of, plus
from nearfold.worths import by_units, grain_of, units_of


def total(shape, rows, way="even"):
    """The sum of a list of rows, rounded once, as a tuple (bits, flags)."""
    told = none_among(shape, rows)
    if told is not None:
        return told
    return added(shape, [part_of(shape, bits) for bits in rows], grain_of(shape), way)


def dots(shape, pairs, way="even"):
    """The sum of the products of a list of pairs, rounded once, as a tuple (bits, flags)."""
    told = told_ahead(shape, pairs, [bits for pair in pairs for bits in pair])
    if told is not None:
        return told
    parts = [product_part(shape, one, other) for one, other in pairs]
    return added(shape, parts, 2 * grain_of(shape), way)


def split(shape, one, other):
    """The sum of two numbers by "even", and what is left of the exact sum, as a tuple of bits
    and bits, or NoNumber."""
    bits, flags = plus(shape, one, other)
    # Units refuse what is no number, among the two as well as their sum.
    left = units_of(shape, one) + units_of(shape, other) - units_of(shape, bits)
    return (bits, by_units(shape, 1 if left < 0 else 0, abs(left)))
