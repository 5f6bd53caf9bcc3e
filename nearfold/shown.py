"""Rows shown as texts, numbers by their shortest figures."""

from nearfold.bits import is_end, is_none, kind_of, mark_of, sign_of
from nearfold.shortest import shortest


def shown(shape, bits):
    """The text of bits, which is read back to them by "even"."""
    if sign_of(shape, bits) == 1:
        return "-" + shown_size(shape, bits)
    return shown_size(shape, bits)


def shown_size(shape, bits):
    """The text of bits without their sign."""
    if is_none(shape, bits):
        return f"{kind_of(shape, bits)} {mark_of(shape, bits)}"
    if is_end(shape, bits):
        return "end"
    figures, power = shortest(shape, bits)
    return written_figures(str(figures), power)


def written_figures(figures, power):
    """The text of figures times ten to the power."""
    ahead = len(figures) + power
    if power >= 0 and ahead <= 21:
        return figures + "0" * power
    if 1 <= ahead <= 21:
        return figures[:ahead] + "." + figures[ahead:]
    if -5 <= ahead <= 0:
        return "0." + "0" * -ahead + figures
    point = "." if len(figures) > 1 else ""
    return f"{figures[0]}{point}{figures[1:]}e{ahead - 1}"
