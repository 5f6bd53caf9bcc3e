"""Shapes (e, m): how many places the rank has, and how many the body."""

from nearfold.errors import NoShape


def is_whole(thing):
    """Whether thing is a whole number: an int that is no truth."""
    return isinstance(thing, int) and not isinstance(thing, bool)


def is_within(thing, least, greatest):
    """Whether thing is a whole number from least to greatest."""
    return is_whole(thing) and least <= thing <= greatest


def shape_of(e, m):
    """The shape of two things, or NoShape."""
    if not is_within(e, 2, 11):
        raise NoShape("e is no whole number from 2 to 11")
    if not is_within(m, 2, 60):
        raise NoShape("m is no whole number from 2 to 60")
    return (e, m)
