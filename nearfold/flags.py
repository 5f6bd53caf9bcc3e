"""Flags: what happened on the way to an answer, told by bits."""

from nearfold.errors import NoFlags
from nearfold.shapes import is_within

NEAR = 1
FAINT = 2
OVER = 4
VOID = 8
ODD = 16

WORDS = ("near", "faint", "over", "void", "odd")


def flag_words(flags):
    """The words of flags as a new list, in their order, or NoFlags."""
    if not is_within(flags, 0, NEAR | FAINT | OVER | VOID | ODD):
        raise NoFlags("flags are a whole number from 0 to 31")
    return [word for place, word in enumerate(WORDS) if (flags >> place) & 1]
