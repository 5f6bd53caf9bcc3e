"""The refusals: each kind has a class of its own, straight under FoldError."""


class FoldError(ValueError):
    """Any refusal."""


class NoShape(FoldError):
    """Two things that make no shape."""


class NoBits(FoldError):
    """What is no bits of the shape."""


class NoParts(FoldError):
    """A sign, a rank, a body or a mark that the shape does not have."""


class NoNumber(FoldError):
    """An end or a none where a number is needed."""


class NoWay(FoldError):
    """What is none of the five ways' words."""


class NoFlags(FoldError):
    """What is no flags."""


class NoWhole(FoldError):
    """Bits that are told as no whole number: kind is the word of their kind."""

    def __init__(self, kind):
        self.kind = kind


class NoStep(FoldError):
    """A great shape that does not hold the small one."""


class NoWord(FoldError):
    """What is none of the deeds' words."""


class NoText(FoldError):
    """What is no good text: at tells how far it is the begin of one."""

    def __init__(self, at):
        self.at = at


class NoName(FoldError):
    """What is no name, or one by which nothing is kept."""


class NoRow(FoldError):
    """A row of words that the desk does not know."""
