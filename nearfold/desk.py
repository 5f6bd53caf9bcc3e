"""The desk: rows of bits kept by names, worked upon by rows of words."""

from nearfold.bits import kind_of, parts_of, turned
from nearfold.errors import NoBits, NoName, NoRow
from nearfold.flags import flag_words
from nearfold.moves import done
from nearfold.orders import higher, lower, order_of
from nearfold.products import one_step
from nearfold.quotients import rests
from nearfold.roots import root
from nearfold.scan import FIGURES
from nearfold.shapes import shape_of
from nearfold.shown import shown
from nearfold.sixteens import sixteen_of
from nearfold.sums import minus
from nearfold.tens import read
from nearfold.totals import total
from nearfold.ways import way_of

SMALL_LETTERS = "abcdefghijklmnopqrstuvwxyz"

# How many words may follow the first one: at least, and at most (None: as many as come).
FOLLOWING = {
    "put": (2, None),
    "bits": (2, 2),
    "plus": (3, 3),
    "minus": (3, 3),
    "times": (3, 3),
    "quotient": (3, 3),
    "lower": (3, 3),
    "higher": (3, 3),
    "onestep": (4, 4),
    "root": (2, 2),
    "rest": (3, 3),
    "turn": (2, 2),
    "sum": (2, 21),
    "way": (1, 1),
    "clear": (0, 0),
    "show": (1, 1),
    "sixteen": (1, 1),
    "raw": (1, 1),
    "kind": (1, 1),
    "order": (2, 2),
    "flags": (0, 0),
    "names": (0, 0),
}

# Rows that ask and change nothing.
ASKING = ("show", "sixteen", "raw", "kind", "order", "flags", "names")


def words_of(row):
    """The words of a row that the desk knows, or NoRow."""
    if not isinstance(row, str):
        raise NoRow("a row is a text")
    words = row.split(" ")
    if words[0] not in FOLLOWING:
        raise NoRow("the first word is none that the desk knows")
    least, most = FOLLOWING[words[0]]
    many = len(words) - 1
    if many < least or (most is not None and many > most):
        raise NoRow("too few or too many words")
    return words


def check_name(word):
    """Refuses what is no name."""
    if not 1 <= len(word) <= 8 or any(letter not in SMALL_LETTERS for letter in word):
        raise NoName("a name is one to eight small letters")


def bits_of(shape, number):
    """The bits that are written in figures, or NoBits."""
    noughts_ahead = number.startswith("0") and number != "0"
    if noughts_ahead or not 1 <= len(number) <= 25 or any(figure not in FIGURES for figure in number):
        raise NoBits("bits are one to twenty-five figures without noughts ahead")
    bits = int(number)
    # Taken apart only so that what is beyond the shape is refused.
    parts_of(shape, bits)
    return bits


def joined_words(words):
    """Words with blanks between, or a dash where there are none."""
    return " ".join(words) if words else "-"


def deed_of_one(shape, word, one, way):
    """The answer of a deed upon one row, as a tuple (bits, flags)."""
    if word == "root":
        return root(shape, one, way)
    return (turned(shape, one), 0)


def deed_of_two(shape, word, one, other, way):
    """The answer of a deed upon two rows, as a tuple (bits, flags)."""
    if word == "minus":
        return minus(shape, one, other, way)
    if word == "lower":
        return lower(shape, one, other)
    if word == "higher":
        return higher(shape, one, other)
    if word == "rest":
        bits, flags, turns = rests(shape, one, other)
        return (bits, flags)
    return done(shape, word, one, other, way)


class Desk:
    """A desk of a shape: it has a way, flags gathered, and rows kept by names."""

    def __init__(self, e, m):
        self.shape = shape_of(e, m)
        self.way = "even"
        self.flags = 0
        self.rows = {}

    def say(self, row):
        """The answer to a row of words; what is refused changes nothing."""
        words = words_of(row)
        if words[0] in ASKING:
            return self.asked(words)
        if words[0] == "way":
            return self.take_way(words[1])
        if words[0] == "clear":
            self.flags = 0
            return "-"
        check_name(words[1])
        bits, flags = self.answer_of(words)
        self.rows[words[1]] = bits
        self.flags |= flags
        return joined_words(flag_words(flags))

    def take_way(self, word):
        """Takes a way from now on, or NoWay."""
        way_of(word)
        self.way = word
        return "-"

    def kept(self, name):
        """The bits that are kept by a name, or NoName."""
        # By what is no name nothing is kept, either.
        if name not in self.rows:
            raise NoName("no name, or one by which nothing is kept")
        return self.rows[name]

    def answer_of(self, words):
        """The answer of a row that keeps one, as a tuple (bits, flags)."""
        if words[0] == "put":
            return read(self.shape, " ".join(words[2:]), self.way)
        if words[0] == "bits":
            return (bits_of(self.shape, words[2]), 0)
        rows = [self.kept(name) for name in words[2:]]
        if words[0] == "sum":
            return total(self.shape, rows, self.way)
        if len(rows) == 1:
            return deed_of_one(self.shape, words[0], rows[0], self.way)
        if len(rows) == 2:
            return deed_of_two(self.shape, words[0], rows[0], rows[1], self.way)
        return one_step(self.shape, rows[0], rows[1], rows[2], self.way)

    def asked(self, words):
        """The answer to a row that only asks."""
        if words[0] == "flags":
            return joined_words(flag_words(self.flags))
        if words[0] == "names":
            return joined_words(sorted(self.rows))
        rows = [self.kept(name) for name in words[1:]]
        if words[0] == "show":
            return shown(self.shape, rows[0])
        if words[0] == "sixteen":
            return sixteen_of(self.shape, rows[0])
        if words[0] == "raw":
            return str(rows[0])
        if words[0] == "kind":
            return kind_of(self.shape, rows[0])
        return order_of(self.shape, rows[0], rows[1])
