"""Sums and differences of two, rounded once."""

from nearfold.bits import is_end, nought_of, sign_of, turned
from nearfold.nones import none_among, odd_answer
from nearfold.rounding import rounded
from nearfold.worths import grain_of, units_of


def sign_of_nothing(one_sign, other_sign, way):
    """The sign of the nought that a sum of 0 is told as."""
    if one_sign == other_sign:
        return one_sign
    return 1 if way == "down" else 0


def rounded_sum(shape, top, bottom, nothing_sign, way):
    """The exact sum top / bottom, rounded with its sign; where it is 0, the nought of the
    sign that is told for it."""
    if top == 0:
        return (nought_of(shape, nothing_sign), 0)
    return rounded(shape, 1 if top < 0 else 0, abs(top), bottom, way)


def plus(shape, one, other, way="even"):
    """The sum of two as a tuple (bits, flags)."""
    told = none_among(shape, [one, other])
    if told is not None:
        return told
    if is_end(shape, one):
        unlike_ends = is_end(shape, other) and one != other
        return odd_answer(shape) if unlike_ends else (one, 0)
    if is_end(shape, other):
        return (other, 0)
    top = units_of(shape, one) + units_of(shape, other)
    nothing_sign = sign_of_nothing(sign_of(shape, one), sign_of(shape, other), way)
    return rounded_sum(shape, top, 1 << grain_of(shape), nothing_sign, way)


def minus(shape, one, other, way="even"):
    """The one less the other as a tuple (bits, flags)."""
    # A none is told ahead of the turn, which would change its sign.
    told = none_among(shape, [one, other])
    if told is not None:
        return told
    return plus(shape, one, turned(shape, other), way)
