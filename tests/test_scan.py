"""Points 31 and 33: which texts are good, and how far others are the begin of a good one."""

import re
import unittest

from helper import NO_WHOLES
from nearfold.errors import FoldError, NoText
from nearfold.scan import good_begin, is_good
from nearfold.sixteens import read_sixteen
from nearfold.tens import read

TENS = re.compile(
    r"-?(end|(still|loud) (0|[1-9][0-9]{0,17})|[0-9]+(\.[0-9]+)?(e-?[0-9]{1,4})?)"
)
SIXTEENS = re.compile(r"-?x[0-9a-f]\.[0-9a-f]{1,20}r-?[0-9]{1,4}")

# Whatever is the begin of a good text, one of these ends is what may follow it.
TENS_ENDS = {word[at:] for word in ("end", "still 0", "loud 0", "0") for at in range(len(word) + 1)}
SIXTEENS_ENDS = {"x0.0r0"[at:] for at in range(len("x0.0r0") + 1)}

GOOD = [
    "end", "-end", "still 0", "-still 0", "loud 0", "-loud 0", "still 1", "loud 9", "-loud 27",
    "still 10", "still 100000000000000000", "still 123456789012345678", "-loud 999999999999999999",
    "0", "-0", "1", "9", "00", "007", "-12", "0.0", "0.5", "12.50", "-000.000", "3.14159",
    "1e5", "1e-5", "1e0", "1e-0", "1e00", "1e0000", "1e-0007", "1e9999", "1e-9999", "-1.5e22",
    "0.00e0", "12345678901234567890123456789.123456789e-1234", "1" * 280, "0." + "0" * 250 + "1",
]
BAD = [
    "", "-", "--1", "+1", " 1", "1 ", "1\n", "\n", ".", ".5", "5.", "-.5", "1..2", "1.2.3", "1.e5",
    "1e", "1e-", "1e+5", "1e--5", "1e5.0", "1e5e5", "1e00000", "1e12345", "1e-00001", "1E5", "1,5",
    "1_0", "0x1", "x1.0r0", "e", "e5", "-e5", "en", "endd", "end 0", "ende", "End", "END", "- end",
    "still", "still ", "still  0", "still 00", "still 01", "still -1", "still 1.0", "still x",
    "still 1e1", "still 1234567890123456789", "still 1000000000000000000", "loud", "loud ",
    "loud 007", "loudd 1", "lou 1", "stil 0", "Still 0", "loud 0 ", "still0", "nought", "inf",
    "nan", "1 2", "1-", "1-2", "1e5-", "1.5x", "0b1", "1e 5", "1.-5", "1.5e", "1.5e-",
]
GOOD_SIXTEENS = [
    "x0.0r0", "x1.8r0", "-x1.8r-1", "xf.fr9999", "x0.123456789abcdef01234r-1022", "-x0.0r0",
    "x1.00000000000000000000r0", "xa.br0007", "x9.9r-0000", "xe.eer1", "x1.dr-12",
]
BAD_SIXTEENS = [
    "", "-", "x", "-x", "x1", "x1.", "x1.8", "x1.8r", "x1.8r-", "x.8r0", "x1r0", "x1.r0", "x10.8r0",
    "1.8r0", "X1.8r0", "x1.8R0", "xA.8r0", "x1.Fr0", "xg.0r0", "x1.gr0", "x1.8p0", "x1.8e0",
    "x1.8r00000", "x1.8r12345", "x1.8r-12345", "x1.8r+1", "x1.8r--1", "x1.8ra", "x1.8r1.",
    "x1.000000000000000000000r0", "--x1.8r0", "x-1.8r0", " x1.8r0", "x1.8r0 ", "x1.8 r0", "x1..8r0",
    "0x1.8r0", "end", "0", "12.5", "still 0", "x1.8r0\n", "xend",
]
SPOILING = "0159.e-xrnd stlouaifFEgR+\n"


def model_good(text, sixteen):
    return (SIXTEENS if sixteen else TENS).fullmatch(text) is not None


def model_begin(text, sixteen):
    """The longest begin that some end makes a good text."""
    ends = SIXTEENS_ENDS if sixteen else TENS_ENDS
    return max(
        (at for at in range(len(text) + 1)
         if any(model_good(text[:at] + end, sixteen) for end in ends)),
        default=0,
    )


def spoiled(text):
    """The text with a sign put in, cut out or exchanged at each place."""
    for at in range(len(text) + 1):
        for sign in SPOILING:
            yield text[:at] + sign + text[at:]
            yield text[:at] + sign + text[at + 1:]
        yield text[:at] + text[at + 1:]


class TestScan(unittest.TestCase):
    def check(self, text, sixteen):
        good, begin = model_good(text, sixteen), model_begin(text, sixteen)
        self.assertIs(is_good(text, sixteen), good, text)
        told = good_begin(text, sixteen)
        self.assertIs(type(told), int)
        self.assertEqual(told, begin, text)
        if not good:
            self.refuse(text, sixteen, begin)

    def refuse(self, thing, sixteen, begin):
        reader = read_sixteen if sixteen else read
        with self.assertRaises(NoText) as caught:
            reader((11, 60), thing)
        self.assertIsInstance(caught.exception, FoldError)
        self.assertIs(type(caught.exception.at), int)
        self.assertEqual(caught.exception.at, begin, thing)

    def test_good_texts(self):
        for text in GOOD:
            self.assertIs(is_good(text), True, text)
            self.assertEqual(good_begin(text), len(text), text)
        for text in GOOD_SIXTEENS:
            self.assertIs(is_good(text, True), True, text)
            self.assertEqual(good_begin(text, True), len(text), text)

    def test_bad_texts(self):
        for text in BAD:
            self.assertIs(is_good(text), False, text)
            self.check(text, False)
        for text in BAD_SIXTEENS:
            self.assertIs(is_good(text, True), False, text)
            self.check(text, True)

    def test_each_sort_is_bad_as_the_other(self):
        for text in GOOD:
            self.check(text, True)
        for text in GOOD_SIXTEENS:
            self.check(text, False)

    def test_all_begins(self):
        for text in GOOD:
            for at in range(len(text) + 1):
                self.check(text[:at], False)
                self.assertEqual(good_begin(text[:at]), at)
        for text in GOOD_SIXTEENS:
            for at in range(len(text) + 1):
                self.check(text[:at], True)
                self.assertEqual(good_begin(text[:at], True), at)

    def test_spoiled_texts(self):
        for text in GOOD:
            if len(text) < 30:
                for bad in spoiled(text):
                    self.check(bad, False)
        for text in GOOD_SIXTEENS:
            for bad in spoiled(text):
                self.check(bad, True)

    def test_every_short_text(self):
        signs = "0.e-r x1a"
        texts = [""]
        for many in range(4):
            texts = [text + sign for text in texts for sign in signs]
            for text in texts:
                self.check(text, False)
                self.check(text, True)

    def test_begins_by_hand(self):
        told = [
            ("", 0), ("-", 1), ("--", 1), ("en", 2), ("enf", 2), ("ende", 3), ("still", 5),
            ("still ", 6), ("still 00", 7), ("still 1234567890123456789", 24), ("stilt", 4),
            ("1.", 2), ("1.e", 2), ("1e", 2), ("1e-", 3), ("1e--", 3), ("1e00000", 6),
            ("-1.5e-12345", 10), ("x", 0), ("1x", 1), ("12 ", 2), (".5", 0), ("-.5", 1), ("loud -", 5),
            ("loud 0", 6), ("1e5e5", 3), ("1.5.5", 3), ("+1", 0), ("-+1", 1), ("E", 0),
        ]
        for text, begin in told:
            self.assertEqual(good_begin(text), begin, text)
        told = [
            ("", 0), ("-x", 2), ("x1", 2), ("x10", 2), ("x1.", 3), ("x1.r", 3), ("x1.A", 3), ("xA", 1),
            ("x1.000000000000000000000", 23), ("x1.8r", 5), ("x1.8r-", 6), ("x1.8r12345", 9),
            ("X1", 0), ("1", 0), ("x1.8p", 4), ("x1.8R", 4), ("x1.8r0", 6),
        ]
        for text, begin in told:
            self.assertEqual(good_begin(text, sixteen=True), begin, text)

    def test_what_is_no_text(self):
        for thing in NO_WHOLES + [1, 0, -1, ["end"], ("1",), b"end", {"1": 1}]:
            if not isinstance(thing, str):
                self.refuse(thing, False, 0)
                self.refuse(thing, True, 0)

    def test_by_name(self):
        self.assertIs(is_good(sixteen=True, text="x1.8r0"), True)
        self.assertIs(is_good(text="x1.8r0"), False)
        self.assertEqual(good_begin(sixteen=True, text="x1.8r"), 5)
        self.assertEqual(good_begin(text="x1.8r"), 0)


if __name__ == "__main__":
    unittest.main()
