"""Bits moved from one shape to another, and deeds done in a greater shape and moved back."""

from nearfold.bits import end_of, end_size, is_end, is_none, kind_of, ones, row_of, sign_of, stilled
from nearfold.errors import NoStep, NoWord
from nearfold.flags import ODD
from nearfold.products import times
from nearfold.quotients import quotient
from nearfold.rounding import rounded
from nearfold.sums import plus
from nearfold.worths import by_units, grain_of, units_of

DEEDS = ("plus", "times", "quotient")


def moved(shape, bits, other_shape, way="even"):
    """The bits of another shape that these are moved to, as a tuple (bits, flags)."""
    if is_none(shape, bits):
        return moved_none(shape, bits, other_shape)
    sign = sign_of(shape, bits)
    if is_end(shape, bits):
        return (end_of(other_shape, sign), 0)
    return rounded(other_shape, sign, abs(units_of(shape, bits)), 1 << grain_of(shape), way)


def moved_none(shape, bits, other_shape):
    """The still one of another shape that a none is moved to, as a tuple (bits, flags)."""
    m, other_m = shape[1], other_shape[1]
    body = stilled(shape, bits) & ones(m)
    # The greatest place stays the greatest: a longer body grows, a shorter one is cut, behind.
    size = end_size(other_shape) + ((body << other_m) >> m)
    flags = ODD if kind_of(shape, bits) == "loud" else 0
    return (row_of(other_shape, sign_of(shape, bits), size), flags)


def holds(great, small):
    """Whether each number of the small shape is one of the great shape, too."""
    return great[0] >= small[0] and great[1] >= small[1]


def check_step(small, great, word):
    """Refuses a step through a shape that does not hold the small one, then a word of no deed."""
    if not holds(great, small):
        raise NoStep("the great shape does not hold the small one")
    if not isinstance(word, str) or word not in DEEDS:
        raise NoWord("none of the three deeds' words")


def done(shape, word, one, other, way):
    """The answer of the deed that a word tells, as a tuple (bits, flags)."""
    if word == "plus":
        return plus(shape, one, other, way)
    if word == "times":
        return times(shape, one, other, way)
    return quotient(shape, one, other, way)


def through(small, great, word, one, other, way="even"):
    """A deed upon two rows of a small shape, done in a great one and moved back, as a tuple
    (bits, flags), or NoStep, NoWord."""
    check_step(small, great, word)
    great_one, one_flags = moved(small, one, great, way)
    great_other, other_flags = moved(small, other, great, way)
    great_bits, deed_flags = done(great, word, great_one, great_other, way)
    bits, back_flags = moved(great, great_bits, small, way)
    return (bits, one_flags | other_flags | deed_flags | back_flags)


def harmless(small, great, word, way="even"):
    """Whether a step through a great shape tells the same bits as the deed in the small one:
    ("harmless", None), ("harmful", a pair) or ("open", None); or NoStep, NoWord."""
    check_step(small, great, word)
    if small == great or way not in ("even", "off"):
        return ("harmless", None)
    if word == "plus":
        return harmless_plus(small, great, way)
    if great[1] >= 2 * small[1] + 1 and great[0] > small[0]:
        return ("harmless", None)
    return ("open", None)


def harmless_plus(small, great, way):
    """What harmless tells of sums that go to the nearer one."""
    e, m = small
    more = great[1] - m
    # Beyond these bounds either no number of the small shape has the places to come to lie
    # just beside a middle, or all sums are exact in the great shape.
    if 1 <= more <= m + 1 and more <= (1 << e) - 4:
        return ("harmful", harmful_pair(small, more, way))
    return ("harmless", None)


def harmful_pair(small, more, way):
    """Two numbers whose sum lies just below a middle of the small shape, and is rounded to
    that middle in a shape whose body is longer by so many places."""
    e, m = small
    one = ((ones(e) - 1) << m) + 1
    # Half a step at the one, in units.
    half = (1 << e) - 4
    # With one place more, "even" would take a sum amid the odd one and the middle down again.
    less = 2 if way == "even" and more == 1 else more
    return (one, by_units(small, 0, (1 << half) - (1 << (half - less))))
