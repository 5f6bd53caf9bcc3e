"""Texts by sixteen: read by a way, and told of numbers."""

from nearfold.bits import is_number, parts_of
from nearfold.errors import NoNumber
from nearfold.rounding import rounded
from nearfold.scan import check_text, sign_and_rest


def read_sixteen(shape, text, way="even"):
    """The bits that a text by sixteen tells, as a tuple (bits, flags), or NoText."""
    check_text(text, sixteen=True)
    sign, rest = sign_and_rest(text)
    figures, letter, power = rest.removeprefix("x").partition("r")
    ahead, point, behind = figures.partition(".")
    whole = int(ahead + behind, 16)
    twos = int(power) - 4 * len(behind)
    if twos < 0:
        return rounded(shape, sign, whole, 1 << -twos, way)
    return rounded(shape, sign, whole << twos, 1, way)


def sixteen_of(shape, bits):
    """The text by sixteen of a number, or NoNumber."""
    if not is_number(shape, bits):
        raise NoNumber("only numbers have a text by sixteen")
    e, m = shape
    sign, rank, body = parts_of(shape, bits)
    many = (m + 3) // 4
    figures = f"{body << (4 * many - m):x}".zfill(many)
    # Numbers of rank 0 have the power of rank 1, and nothing ahead of the body.
    power = max(rank, 1) - (1 << (e - 1)) + 1
    return f"{'-' if sign == 1 else ''}x{min(rank, 1)}.{figures}r{power}"
