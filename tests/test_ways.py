"""Point 14: the five ways."""

import unittest

from helper import NO_WHOLES, WAYS
from nearfold.errors import NoWay
from nearfold.ways import Down, Even, In, Off, Up, Way, way_of

CLASSES = {"even": Even, "off": Off, "in": In, "up": Up, "down": Down}

# For each way, sign and side: whether it goes on, for k even and for k odd.
GOES_ON = {
    "even": {(0, -1): "--", (0, 0): "-+", (0, 1): "++", (1, -1): "--", (1, 0): "-+", (1, 1): "++"},
    "off": {(0, -1): "--", (0, 0): "++", (0, 1): "++", (1, -1): "--", (1, 0): "++", (1, 1): "++"},
    "in": {(0, -1): "--", (0, 0): "--", (0, 1): "--", (1, -1): "--", (1, 0): "--", (1, 1): "--"},
    "up": {(0, -1): "++", (0, 0): "++", (0, 1): "++", (1, -1): "--", (1, 0): "--", (1, 1): "--"},
    "down": {(0, -1): "--", (0, 0): "--", (0, 1): "--", (1, -1): "++", (1, 0): "++", (1, 1): "++"},
}

# For each way: whether it ends, for the signs 0 and 1.
ENDS = {
    "even": (True, True), "off": (True, True), "in": (False, False),
    "up": (True, False), "down": (False, True),
}


def both_made(word):
    return [CLASSES[word](), way_of(word)]


class TestWays(unittest.TestCase):
    def test_goes_on_by_the_table(self):
        for word in WAYS:
            for way in both_made(word):
                for (sign, side), told in GOES_ON[word].items():
                    for odd in (False, True):
                        wanted = told[int(odd)] == "+"
                        self.assertIs(way.goes_on(sign, odd, side), wanted, (word, sign, odd, side))
                        self.assertIs(way.goes_on(side=side, odd=odd, sign=sign), wanted)

    def test_ends_by_the_table(self):
        for word in WAYS:
            for way in both_made(word):
                for sign in (0, 1):
                    self.assertIs(way.ends(sign), ENDS[word][sign], (word, sign))
                    self.assertIs(way.ends(sign=sign), ENDS[word][sign])

    def test_each_word_tells_its_class(self):
        for word in WAYS:
            self.assertIs(type(way_of(word)), CLASSES[word])
            self.assertIs(type(way_of("".join(list(word)))), CLASSES[word])

    def test_each_class_stands_under_way_with_methods_of_its_own(self):
        for made in CLASSES.values():
            self.assertEqual(made.__bases__, (Way,))
            self.assertIn("goes_on", vars(made))
            self.assertIn("ends", vars(made))
        self.assertIn("goes_on", vars(Way))
        self.assertIn("ends", vars(Way))
        self.assertIsInstance(Way(), Way)

    def test_made_without_arguments(self):
        for made in list(CLASSES.values()) + [Way]:
            with self.assertRaises(TypeError):
                made("even")


def spoiled(word):
    """The word with one sign put in, cut out or exchanged, and in other capitals."""
    told = []
    for at in range(len(word) + 1):
        told += [word[:at] + sign + word[at:] for sign in "aenox -0"]
    for at in range(len(word)):
        told.append(word[:at] + word[at + 1:])
        told += [word[:at] + sign + word[at + 1:] for sign in "abdefinopuvwxEO 0"]
    return told + [word.upper(), word.capitalize(), word.swapcase(), word + "\n", word[::-1]]


class TestNoWay(unittest.TestCase):
    def test_other_words(self):
        for word in WAYS:
            for other in spoiled(word):
                if other not in WAYS:
                    with self.assertRaises(NoWay, msg=other):
                        way_of(other)

    def test_words_of_other_things(self):
        for word in ("", " ", "way", "odd", "near", "plus", "nearest", "evenoff", "even off", "0"):
            with self.assertRaises(NoWay, msg=word):
                way_of(word)

    def test_no_texts(self):
        things = [thing for thing in NO_WHOLES if not isinstance(thing, str)]
        for thing in things + [0, 1, -1, 10 ** 900, ["even"], ("even",), {"even": 1}, b"even"]:
            with self.assertRaises(NoWay, msg=thing):
                way_of(thing)

    def test_no_text_that_says_it_is_alike(self):
        class Alike:
            def __eq__(self, other):
                return True

        with self.assertRaises(NoWay):
            way_of(Alike())

    def test_a_way_itself_is_no_word(self):
        with self.assertRaises(NoWay):
            way_of(Even())


if __name__ == "__main__":
    unittest.main()
