"""Quotients, rounded once, and rests, which are exact."""

from nearfold.bits import crossed_sign, end_of, is_end, is_nought, nought_of, sign_of
from nearfold.flags import VOID
from nearfold.nones import none_among, odd_answer
from nearfold.rounding import rounded, rounded_whole
from nearfold.worths import by_units, units_of


def quotient(shape, one, other, way="even"):
    """The one divided by the other as a tuple (bits, flags)."""
    told = none_among(shape, [one, other])
    if told is not None:
        return told
    if is_nought(shape, one) and is_nought(shape, other):
        return odd_answer(shape)
    if is_end(shape, one) and is_end(shape, other):
        return odd_answer(shape)
    sign = crossed_sign(shape, one, other)
    if is_end(shape, one):
        return (end_of(shape, sign), 0)
    if is_end(shape, other):
        return (nought_of(shape, sign), 0)
    if is_nought(shape, other):
        return (end_of(shape, sign), VOID)
    top, bottom = abs(units_of(shape, one)), abs(units_of(shape, other))
    return rounded(shape, sign, top, bottom, way)


def rests(shape, one, other):
    """The rest of one by other as a tuple (bits, flags, turns)."""
    told = none_among(shape, [one, other])
    if told is None and (is_end(shape, one) or is_nought(shape, other)):
        told = odd_answer(shape)
    if told is not None:
        return (*told, None)
    if is_end(shape, other):
        return (one, 0, 0)
    turns = turns_of(shape, one, other)
    left = units_of(shape, one) - turns * units_of(shape, other)
    return (row_of_rest(shape, left, sign_of(shape, one)), 0, turns)


def turns_of(shape, one, other):
    """The whole number nearest to one / other, of two as near the even one."""
    sign = crossed_sign(shape, one, other)
    top, bottom = abs(units_of(shape, one)), abs(units_of(shape, other))
    return rounded_whole(sign, top, bottom, "even")[0]


def row_of_rest(shape, left, one_sign):
    """The bits of what is left, in units; of 0 the nought with the one's sign."""
    if left == 0:
        return nought_of(shape, one_sign)
    return by_units(shape, 1 if left < 0 else 0, abs(left))
