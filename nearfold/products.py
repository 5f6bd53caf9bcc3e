"""Products, and products with a third one added, rounded once."""

from nearfold.bits import crossed_sign, is_end, is_nought
from nearfold.nones import none_among, odd_answer
from nearfold.sums import added, part_of
from nearfold.worths import grain_of, units_of


def is_end_by_nought(shape, one, other):
    """Whether one of two is an end and the other a nought."""
    if is_end(shape, one):
        return is_nought(shape, other)
    return is_nought(shape, one) and is_end(shape, other)


def told_ahead(shape, pairs, rows):
    """What nones among all rows, or an end by a nought in a pair, give ahead of all else, or
    None."""
    told = none_among(shape, rows)
    if told is None and any(is_end_by_nought(shape, one, other) for one, other in pairs):
        return odd_answer(shape)
    return told


def product_part(shape, one, other):
    """The exact product of two as a part of a sum: its sign, and its units of a unit, or None
    for an end."""
    sign = crossed_sign(shape, one, other)
    if is_end(shape, one) or is_end(shape, other):
        return (sign, None)
    return (sign, units_of(shape, one) * units_of(shape, other))


def times(shape, one, other, way="even"):
    """The product of two as a tuple (bits, flags)."""
    told = told_ahead(shape, [(one, other)], [one, other])
    if told is not None:
        return told
    return added(shape, [product_part(shape, one, other)], 2 * grain_of(shape), way)


def one_step(shape, one, other, third, way="even"):
    """One times other plus third, rounded once, as a tuple (bits, flags)."""
    told = told_ahead(shape, [(one, other)], [one, other, third])
    if told is not None:
        return told
    grain = grain_of(shape)
    parts = [product_part(shape, one, other), part_of(shape, third, grain)]
    return added(shape, parts, 2 * grain, way)
