"""Products, and products with a third one added, rounded once."""

from nearfold.bits import crossed_sign, end_of, is_end, is_nought, sign_of
from nearfold.nones import none_among, odd_answer
from nearfold.rounding import rounded
from nearfold.sums import rounded_sum, sign_of_nothing
from nearfold.worths import grain_of, units_of


def is_end_by_nought(shape, one, other):
    """Whether one of two is an end and the other a nought."""
    if is_end(shape, one):
        return is_nought(shape, other)
    return is_nought(shape, one) and is_end(shape, other)


def told_ahead(shape, one, other, rows):
    """What nones among all rows, or an end by a nought, give ahead of all else, or None."""
    told = none_among(shape, rows)
    if told is None and is_end_by_nought(shape, one, other):
        return odd_answer(shape)
    return told


def product_units(shape, one, other):
    """The exact product of two numbers, in units of a unit."""
    return units_of(shape, one) * units_of(shape, other)


def times(shape, one, other, way="even"):
    """The product of two as a tuple (bits, flags)."""
    told = told_ahead(shape, one, other, [one, other])
    if told is not None:
        return told
    sign = crossed_sign(shape, one, other)
    if is_end(shape, one) or is_end(shape, other):
        return (end_of(shape, sign), 0)
    top = abs(product_units(shape, one, other))
    return rounded(shape, sign, top, 1 << (2 * grain_of(shape)), way)


def one_step(shape, one, other, third, way="even"):
    """One times other plus third, rounded once, as a tuple (bits, flags)."""
    told = told_ahead(shape, one, other, [one, other, third])
    if told is not None:
        return told
    sign = crossed_sign(shape, one, other)
    if is_end(shape, one) or is_end(shape, other):
        product = end_of(shape, sign)
        unlike_ends = is_end(shape, third) and third != product
        return odd_answer(shape) if unlike_ends else (product, 0)
    if is_end(shape, third):
        return (third, 0)
    grain = grain_of(shape)
    top = product_units(shape, one, other) + (units_of(shape, third) << grain)
    nothing_sign = sign_of_nothing(sign, sign_of(shape, third), way)
    return rounded_sum(shape, top, 1 << (2 * grain), nothing_sign, way)
