"""The five ways: what becomes of an exact thing that lies between two sizes, or beyond all."""

from nearfold.errors import NoWay


class Way:
    """A way is asked whether a thing goes on to the greater size, and whether it ends."""

    def goes_on(self, sign, odd, side):
        """Whether a thing between the sizes k and k + 1 goes on to k + 1: odd tells of k,
        side is -1, 0 or 1 as it lies nearer to k, amid, or nearer to k + 1."""
        return False

    def ends(self, sign):
        """Whether a thing beyond all numbers goes to the end of this sign."""
        return False


class Even(Way):
    """To the nearer one, between two as near to the one whose size is even."""

    def goes_on(self, sign, odd, side):
        return side == 1 or (side == 0 and odd)

    def ends(self, sign):
        return True


class Off(Way):
    """To the nearer one, between two as near to the one of the greater size."""

    def goes_on(self, sign, odd, side):
        return side >= 0

    def ends(self, sign):
        return True


class In(Way):
    """Towards nought."""

    def goes_on(self, sign, odd, side):
        return False

    def ends(self, sign):
        return False


class Up(Way):
    """Towards the end of sign 0."""

    def goes_on(self, sign, odd, side):
        return sign == 0

    def ends(self, sign):
        return sign == 0


class Down(Way):
    """Towards the end of sign 1."""

    def goes_on(self, sign, odd, side):
        return sign == 1

    def ends(self, sign):
        return sign == 1


def way_of(word):
    """The way of a word, or NoWay."""
    if not isinstance(word, str):
        raise NoWay("a way is told by a text")
    if word == "even":
        return Even()
    if word == "off":
        return Off()
    if word == "in":
        return In()
    if word == "up":
        return Up()
    if word == "down":
        return Down()
    raise NoWay("none of the five ways' words")
