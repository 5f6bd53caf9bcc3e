"""The shortest figures that are read back to a number."""

from nearfold.bits import is_number, size_of
from nearfold.errors import NoNumber
from nearfold.rounding import twice_middle
from nearfold.tens import ten_power
from nearfold.worths import grain_of, height_of


def shortest(shape, bits):
    """The tuple (figures, power) of a number: figures times ten to the power are read back to
    it by "even", as few and as near as can be; or NoNumber."""
    if not is_number(shape, bits):
        raise NoNumber("only numbers have shortest figures")
    size = size_of(shape, bits)
    if size == 0:
        return (0, 0)
    power = first_power(height_of(shape, size), 1 << grain_of(shape))
    figures = nearest_figures(shape, size, power)
    while figures is None:
        power -= 1
        figures = nearest_figures(shape, size, power)
    # Only where one figure is enough may the one above 9 be told; it is written as 1.
    return (1, power + 1) if figures == 10 else (figures, power)


def first_power(top, bottom):
    """The power of ten that the first figure of top / bottom counts."""
    if top >= bottom:
        return len(str(top // bottom)) - 1
    return -len(str((bottom - 1) // top))


def nearest_figures(shape, size, power):
    """The figures that, times ten to the power, lie nearest to the number of this size, of two
    as near the even ones; or None where none are read back to it by "even"."""
    # All is counted in halves of a unit, and for a power below 0 as many times finer.
    finer = ten_power(max(-power, 0))
    step = ten_power(max(power, 0)) << (grain_of(shape) + 1)
    number = 2 * height_of(shape, size) * finer
    # What lies amid two sizes goes to the even one, so an odd size has bounds of others.
    odd = size % 2
    low = twice_middle(shape, size - 1) * finer + odd
    high = twice_middle(shape, size) * finer - odd
    below = number // step
    good = [figures for figures in (below, below + 1) if low <= figures * step <= high]
    return min(good, key=lambda figures: (abs(figures * step - number), figures % 2), default=None)
