"""Sums and differences of two, rounded once."""

from nearfold.bits import end_of, is_end, nought_of, sign_of, turned
from nearfold.nones import none_among, odd_answer
from nearfold.rounding import rounded
from nearfold.worths import grain_of, units_of


def part_of(shape, bits, places=0):
    """A number or an end as a part of a sum: its sign, and its units with so many places put
    behind, or None for an end."""
    units = None if is_end(shape, bits) else units_of(shape, bits) << places
    return (sign_of(shape, bits), units)


def added(shape, parts, places, way):
    """The exact sum of parts, rounded once, as a tuple (bits, flags). A part is a sign and a
    whole number of 1 / 2 ** places, or None for an end."""
    ends = [sign for sign, many in parts if many is None]
    if ends:
        return (end_of(shape, ends[0]), 0) if are_alike(ends) else odd_answer(shape)
    top = sum(many for sign, many in parts)
    if top == 0:
        return (nought_of(shape, sign_of_nothing([sign for sign, many in parts], way)), 0)
    return rounded(shape, 1 if top < 0 else 0, abs(top), 1 << places, way)


def are_alike(signs):
    """Whether all signs are the same one."""
    return signs.count(signs[0]) == len(signs)


def sign_of_nothing(signs, way):
    """The sign of the nought that a sum of 0 is told as, by the signs of its parts."""
    if not signs:
        return 0
    # Parts of like signs add up to 0 only where each of them is a nought.
    if are_alike(signs):
        return signs[0]
    return 1 if way == "down" else 0


def plus(shape, one, other, way="even"):
    """The sum of two as a tuple (bits, flags)."""
    told = none_among(shape, [one, other])
    if told is not None:
        return told
    return added(shape, [part_of(shape, one), part_of(shape, other)], grain_of(shape), way)


def minus(shape, one, other, way="even"):
    """The one less the other as a tuple (bits, flags)."""
    # A none is told ahead of the turn, which would change its sign.
    told = none_among(shape, [one, other])
    if told is not None:
        return told
    return plus(shape, one, turned(shape, other), way)
