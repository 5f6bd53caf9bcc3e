"""What nones give in any deed, and the answer where no other one is due."""

from nearfold.bits import is_none, kind_of, stilled, told_none
from nearfold.flags import ODD


def none_among(shape, rows):
    """The tuple (bits, flags) that a deed tells where a none is among its rows, else None."""
    nones = [bits for bits in rows if is_none(shape, bits)]
    if not nones:
        return None
    loud = any(kind_of(shape, bits) == "loud" for bits in nones)
    return (stilled(shape, nones[0]), ODD if loud else 0)


def odd_answer(shape):
    """The tuple (bits, flags) of a deed that is odd."""
    return (told_none(shape), ODD)
