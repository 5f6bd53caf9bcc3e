"""Good texts read: ends, nones, and rows of figures rounded by a way."""

from nearfold.bits import end_of, none_of
from nearfold.rounding import rounded
from nearfold.scan import check_text, sign_and_rest


def read(shape, text, way="even"):
    """The bits that a text tells, as a tuple (bits, flags), or NoText, NoParts."""
    check_text(text)
    sign, rest = sign_and_rest(text)
    if rest == "end":
        return (end_of(shape, sign), 0)
    word, blank, mark = rest.partition(" ")
    if blank == " ":
        return (none_of(shape, sign, int(mark), loud=word == "loud"), 0)
    top, bottom = fraction_of(rest)
    return rounded(shape, sign, top, bottom, way)


def fraction_of(text):
    """The fraction top / bottom of a row of figures without a sign, not in lowest terms."""
    figures, letter, power = text.partition("e")
    ahead, point, behind = figures.partition(".")
    whole = whole_of(ahead + behind)
    tens = (int(power) if letter == "e" else 0) - len(behind)
    if tens < 0:
        return (whole, ten_power(-tens))
    return (whole * ten_power(tens), 1)


def whole_of(figures):
    """The whole number of figures, however many there are: int has a bound of its own."""
    whole = 0
    for figure in figures:
        whole = 10 * whole + int(figure)
    return whole


def ten_power(many):
    """Ten multiplied with itself so many times."""
    power, square = 1, 10
    while many > 0:
        if many % 2 == 1:
            power *= square
        square *= square
        many //= 2
    return power
