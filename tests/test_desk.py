"""Points 39 and 40: the desk."""

import unittest

from helper import LEAST, NO_WHOLES, SHAPES, WAYS, all_bits, edge_rows, end_row, kind_word, last_size
from nearfold.bits import turned
from nearfold.desk import Desk
from nearfold.errors import (
    FoldError, NoBits, NoName, NoNumber, NoParts, NoRow, NoShape, NoText, NoWay,
)
from nearfold.flags import flag_words
from nearfold.orders import higher, lower, order_of
from nearfold.products import one_step, times
from nearfold.quotients import quotient, rests
from nearfold.roots import root
from nearfold.shown import shown
from nearfold.sixteens import sixteen_of
from nearfold.sums import minus, plus
from nearfold.tens import read
from nearfold.totals import total

WORDS = ["put", "bits", "plus", "minus", "times", "quotient", "lower", "higher", "onestep", "root", "rest",
         "turn", "sum", "way", "clear", "show", "sixteen", "raw", "kind", "order", "flags", "names"]
NO_NAMES = ["", "A", "a1", "abcdefghi", "abcdefghij", "a_", "a-b", "1", "aB", "a\n", "a\t", "Abcdefgh", "a.b", "-"]


def told_words(flags):
    return " ".join(flag_words(flags)) or "-"


def desk_of(shape, rows=(), way="even"):
    """A desk that keeps rows by the names a, b, c and so on."""
    desk = Desk(*shape)
    for name, row in zip("abcdefghijklmnopqrstuvwxyz", rows):
        desk.say(f"bits {name} {row}")
    desk.say(f"way {way}")
    return desk


def state(desk):
    """All that a desk can be asked for: its names, its rows and its flags."""
    names = desk.say("names")
    rows = [] if names == "-" else [(name, desk.say(f"raw {name}")) for name in names.split(" ")]
    return rows, desk.say("flags")


class DeskTests(unittest.TestCase):
    def refuse(self, desk, row, refusal):
        """A refusal, and that it changes nothing."""
        before = state(desk)
        with self.assertRaises(FoldError) as caught:
            desk.say(row)
        self.assertIs(type(caught.exception), refusal, row)
        self.assertEqual(state(desk), before, row)
        return caught.exception


class TestMaking(DeskTests):
    def test_shapes(self):
        for shape in SHAPES:
            desk = Desk(*shape)
            self.assertEqual(desk.say("put a end"), "-")
            self.assertEqual(desk.say("raw a"), str(end_row(shape, 0)))
        self.assertEqual(Desk(m=2, e=2).say("names"), "-")

    def test_no_shape(self):
        for thing in NO_WHOLES + [1, 12, 0, -1]:
            self.assertRaises(NoShape, Desk, thing, 2)
        for thing in NO_WHOLES + [1, 61, 0, -1]:
            self.assertRaises(NoShape, Desk, 2, thing)

    def test_a_new_desk(self):
        desk = Desk(3, 4)
        self.assertEqual(desk.say("flags"), "-")
        self.assertEqual(desk.say("names"), "-")
        # The way is "even" at first: both texts lie amid two numbers.
        self.assertEqual(desk.say("put a 1.03125"), "near")
        self.assertEqual(desk.say("show a"), "1")
        self.assertEqual(desk.say("put a 1.09375"), "near")
        self.assertEqual(desk.say("raw a"), str(0x32))

    def test_desks_are_apart(self):
        one, other = Desk(2, 2), Desk(2, 2)
        one.say("put a 0.1")
        one.say("way up")
        self.assertEqual(state(other), ([], "-"))
        self.assertEqual(other.say("put a 0.1"), "near faint")
        self.assertEqual(other.say("raw a"), "0")
        self.assertEqual(one.say("put a 0.1"), "near faint")
        self.assertEqual(one.say("raw a"), "1")


class TestDeeds(DeskTests):
    def check(self, shape, way, rows, said, answer):
        """A row said to a desk that keeps rows by a, b, c .., and the (bits, flags) it is due."""
        bits, flags = answer
        desk = desk_of(shape, rows, way)
        where = (shape, way, rows, said)
        self.assertEqual(desk.say(said), told_words(flags), where)
        new = said.split(" ")[1]
        kept = dict(zip("abcdefghijklmnopqrstuvwxyz", rows), **{new: bits})
        wanted = [(name, str(kept[name])) for name in sorted(kept)]
        self.assertEqual(state(desk), (wanted, told_words(flags)), where)

    def test_two_of_the_least_shape(self):
        rows = [0, 16, 1, 18, 5, 7, 23, 9, 11, 27, 12, 28, 13, 14, 31]
        for one in rows:
            for other in rows:
                for way in WAYS:
                    pair = (LEAST, way, [one, other])
                    self.check(*pair, "plus new a b", plus(LEAST, one, other, way))
                    self.check(*pair, "minus new a b", minus(LEAST, one, other, way))
                    self.check(*pair, "times new a b", times(LEAST, one, other, way))
                    self.check(*pair, "quotient new a b", quotient(LEAST, one, other, way))
                    self.check(*pair, "lower new a b", lower(LEAST, one, other))
                    self.check(*pair, "higher new a b", higher(LEAST, one, other))
                    self.check(*pair, "rest new a b", rests(LEAST, one, other)[:2])
                    self.check(*pair, "onestep new a b a", one_step(LEAST, one, other, one, way))

    def test_one_of_all_shapes(self):
        for shape in SHAPES:
            for row in edge_rows(shape):
                for way in WAYS:
                    self.check(shape, way, [row], "root new a", root(shape, row, way))
                self.check(shape, "even", [row], "turn new a", (turned(shape, row), 0))
                self.check(shape, "up", [row], "sum new a", total(shape, [row], "up"))
                self.check(shape, "even", [], f"bits new {row}", (row, 0))
                self.check(shape, "in", [], f"put new {shown(shape, row)}", read(shape, shown(shape, row), "in"))

    def test_the_order_of_the_names(self):
        rows = [1, 3, 7, 26]
        self.check(LEAST, "even", rows, "minus new a b", minus(LEAST, 1, 3))
        self.check(LEAST, "even", rows, "minus new b a", minus(LEAST, 3, 1))
        self.check(LEAST, "even", rows, "quotient new c b", quotient(LEAST, 7, 3))
        self.check(LEAST, "even", rows, "rest new c b", rests(LEAST, 7, 3)[:2])
        for said, three in [("onestep new b c d", (3, 7, 26)), ("onestep new d c a", (26, 7, 1)),
                            ("onestep new a b c", (1, 3, 7))]:
            self.check(LEAST, "off", rows, said, one_step(LEAST, *three, "off"))

    def test_new_in_the_place_of_older_ones(self):
        self.check(LEAST, "even", [4, 4], "plus a a b", (8, 0))
        self.check(LEAST, "even", [4, 8], "plus b a b", (10, 0))
        self.check(LEAST, "even", [8], "root a a", root(LEAST, 8))
        self.check(LEAST, "even", [8], "put a 3", (10, 0))
        self.check(LEAST, "even", [8], "bits a 31", (31, 0))
        self.check(LEAST, "even", [8], "turn a a", (24, 0))
        self.check(LEAST, "even", [8], "sum a a a a", (12, 5))

    def test_sums(self):
        for many in (1, 2, 3, 19, 20):
            said = "sum new" + " a" * many
            for way in WAYS:
                self.check((5, 10), way, [15 * 1024 + 1], said, total((5, 10), [15 * 1024 + 1] * many, way))
        self.check(LEAST, "even", [8, 1, 17, 1], "sum new a b d", total(LEAST, [8, 1, 1]))
        self.check(LEAST, "even", [11, 1, 27], "sum new a b c", (1, 0))
        self.check(LEAST, "even", [13, 31], "sum new b a", (31, 16))
        self.check(LEAST, "down", [1, 17], "sum new a b", (16, 0))
        desk = desk_of(LEAST, [8, 1])
        self.refuse(desk, "sum new", NoRow)
        self.refuse(desk, "sum new" + " a" * 21, NoRow)
        self.refuse(desk, "sum", NoRow)

    def test_texts_read_by_the_desk_s_way(self):
        for way in WAYS:
            for text in ["0.1", "-0.1", "0.125", "2.25", "9e9999", "-9e9999", "-1e-9999", "00.5e0", "end", "-end",
                         "still 0", "-loud 1", "-0"]:
                self.check(LEAST, way, [], f"put new {text}", read(LEAST, text, way))

    def test_names(self):
        desk = Desk(2, 2)
        for name in ["a", "z", "abcdefgh", "put", "bits", "names", "flags", "zzzzzzzz", "end", "still"]:
            self.assertEqual(desk.say(f"put {name} 1"), "-")
            self.assertEqual(desk.say(f"show {name}"), "1")
            self.assertEqual(desk.say(f"plus {name} {name} {name}"), "-")
            self.assertEqual(desk.say(f"show {name}"), "2")
        self.assertEqual(desk.say("names"), "a abcdefgh bits end flags names put still z zzzzzzzz")


class TestFlags(DeskTests):
    def test_gathered(self):
        desk = Desk(2, 2)
        told = [
            ("put a 1", "-", "-"), ("put b 2.1", "near", "near"), ("put c 0.1", "near faint", "near faint"),
            ("put d 3.5", "-", "near faint"), ("plus d d d", "near over", "near faint over"),
            ("put z 0", "-", "near faint over"), ("quotient e a z", "void", "near faint over void"),
            ("quotient e z z", "odd", "near faint over void odd"), ("plus e a a", "-", "near faint over void odd"),
            ("clear", "-", "-"), ("quotient e a z", "void", "void"), ("put c -0.1", "near faint", "near faint void"),
            ("put l loud 1", "-", "near faint void"), ("lower e a l", "odd", "near faint void odd"),
            ("clear", "-", "-"), ("clear", "-", "-"), ("higher e l a", "odd", "odd"), ("turn l l", "-", "odd"),
            ("bits l 13", "-", "odd"), ("root e l", "odd", "odd"), ("clear", "-", "-"), ("rest e l a", "odd", "odd"),
            ("clear", "-", "-"), ("sum e l", "odd", "odd"), ("clear", "-", "-"), ("onestep e a a l", "odd", "odd"),
            ("clear", "-", "-"), ("rest e a z", "odd", "odd"), ("clear", "-", "-"), ("minus e a l", "odd", "odd"),
        ]
        for said, answer, gathered in told:
            self.assertEqual(desk.say(said), answer, said)
            self.assertEqual(desk.say("flags"), gathered, said)

    def test_asking_gathers_nothing(self):
        desk = desk_of(LEAST, [13, 4])
        for said in ["show a", "raw a", "kind a", "order a b", "show b", "sixteen b", "names", "flags", "way in"]:
            desk.say(said)
            self.assertEqual(desk.say("flags"), "-")


class TestWays(DeskTests):
    def test_from_then_on(self):
        desk = Desk(2, 2)
        told = {"even": "0", "off": "1", "in": "0", "up": "1", "down": "0"}
        for way in WAYS + WAYS[::-1]:
            self.assertEqual(desk.say(f"way {way}"), "-")
            desk.say("put a 0.125")
            self.assertEqual(desk.say("raw a"), told[way])
            desk.say("put a 0.125")
            self.assertEqual(desk.say("raw a"), told[way])

    def test_no_way(self):
        desk = Desk(2, 2)
        desk.say("way up")
        for word in ["", "Even", "near", "odd", "evens", "u", "UP", "up\n", "1", "-"]:
            self.refuse(desk, f"way {word}", NoWay)
            desk.say("put a 0.1")
            self.assertEqual(desk.say("raw a"), "1")
        self.refuse(desk, "way", NoRow)
        self.refuse(desk, "way up ", NoRow)
        self.refuse(desk, "way  up", NoRow)
        self.refuse(desk, "way nope up", NoRow)

    def test_a_way_keeps_rows_and_flags(self):
        desk = desk_of(LEAST, [1, 2])
        desk.say("put c 0.1")
        before = state(desk)
        desk.say("way down")
        self.assertEqual(state(desk), before)
        desk.say("clear")
        self.assertEqual(state(desk), (before[0], "-"))
        desk.say("put d 0.1")
        self.assertEqual(desk.say("raw d"), "0")


class TestAsking(DeskTests):
    def test_of_one(self):
        for shape in SHAPES:
            for row in edge_rows(shape):
                desk = desk_of(shape, [row])
                self.assertEqual(desk.say("show a"), shown(shape, row))
                self.assertEqual(desk.say("raw a"), str(row))
                self.assertEqual(desk.say("kind a"), kind_word(shape, row))
                if row % 2 ** sum(shape) < last_size(shape):
                    self.assertEqual(desk.say("sixteen a"), sixteen_of(shape, row))
                else:
                    self.refuse(desk, "sixteen a", NoNumber)

    def test_orders(self):
        for one in all_bits(LEAST):
            for other in [0, 16, 1, 17, 11, 27, 12, 28, 13, 14, one]:
                desk = desk_of(LEAST, [one, other])
                self.assertEqual(desk.say("order a b"), order_of(LEAST, one, other))
                self.assertEqual(desk.say("order b a"), order_of(LEAST, other, one))

    def test_names_sorted(self):
        desk = Desk(2, 2)
        self.assertEqual(desk.say("names"), "-")
        for name in ["b", "ab", "aa", "c", "a"]:
            desk.say(f"put {name} 1")
        self.assertEqual(desk.say("names"), "a aa ab b c")
        desk.say("put b 2")
        self.assertEqual(desk.say("names"), "a aa ab b c")

    def test_each_answer_is_a_text(self):
        desk = desk_of(LEAST, [4, 8])
        for said in ["show a", "raw a", "kind a", "sixteen a", "order a b", "names", "flags", "clear", "way in",
                     "put c 1", "bits c 1", "plus c a b", "turn c a"]:
            self.assertIs(type(desk.say(said)), str)


class TestNumbers(DeskTests):
    def test_good_ones(self):
        for shape in SHAPES:
            for row in [0, 1, 9, 10, 2 ** (1 + sum(shape)) - 1]:
                desk = Desk(*shape)
                self.assertEqual(desk.say(f"bits a {row}"), "-")
                self.assertEqual(desk.say("raw a"), str(row))
                self.assertEqual(desk.say("flags"), "-")

    def test_no_bits(self):
        for shape in SHAPES:
            desk = desk_of(shape, [1])
            beyond = 2 ** (1 + sum(shape))
            for text in [beyond, beyond + 1, 10 * beyond, "9" * 24, "9" * 25, "9" * 26, "1" + "0" * 24,
                         "1" + "0" * 25, "1" * 100, "1" * 290, "00", "01", "0001", "0" * 25, "0" * 26, "-1", "-0",
                         "+1", "", "1.0", "1e0", "x1", "0x1", "a", "1a", "1_0", "1\n", "\n1", "\t1", "one"]:
                for new in ("a", "b"):
                    self.refuse(desk, f"bits {new} {text}", NoBits)

    def test_noughts_ahead_of_a_good_one(self):
        desk = Desk(11, 60)
        self.refuse(desk, "bits a 0000000000000000000000001", NoBits)
        self.assertEqual(desk.say("bits a 4722366482869645213695"), "-")
        self.refuse(desk, "bits a 4722366482869645213696", NoBits)


class TestTexts(DeskTests):
    def test_no_text(self):
        desk = desk_of(LEAST, [1])
        told = [
            ("put b ", 0), ("put b  1", 0), ("put b 1 ", 1), ("put b 1  ", 1), ("put b 1 2", 1), ("put b x", 0),
            ("put b still", 5), ("put b still ", 6), ("put b still 00", 7), ("put b 1e", 2), ("put b -", 1),
            ("put b  ", 0), ("put b end end", 3), ("put a 1.", 2), ("put b x1.0r0", 0), ("put b 1\n", 1),
            ("put b still  1", 6),
        ]
        for said, begin in told:
            self.assertEqual(self.refuse(desk, said, NoText).at, begin, said)

    def test_no_parts(self):
        desk = desk_of(LEAST, [1])
        for text in ["still 2", "loud 0", "-loud 0", "loud 2", "-still 999999999999999999"]:
            self.refuse(desk, f"put a {text}", NoParts)

    def test_a_text_with_a_blank(self):
        desk = Desk(2, 2)
        self.assertEqual(desk.say("put a still 1"), "-")
        self.assertEqual(desk.say("show a"), "still 1")
        self.assertEqual(desk.say("put a -loud 1"), "-")
        self.assertEqual(desk.say("show a"), "-loud 1")

    def test_no_blank_behind_new(self):
        desk = desk_of(LEAST, [1])
        for said in ["put", "put ", "put a", "put b", "put A", "put abcdefghi"]:
            self.refuse(desk, said, NoRow)


class TestNoRow(DeskTests):
    def test_what_is_no_text(self):
        desk = desk_of(LEAST, [1])
        for thing in NO_WHOLES + [0, 1, ["names"], ("flags",), b"clear", {"names": 1}]:
            if not isinstance(thing, str):
                self.refuse(desk, thing, NoRow)

    def test_no_first_word(self):
        desk = desk_of(LEAST, [1])
        for said in ["", " ", "  ", "nope", "Put a 1", "PUT a 1", "puts a 1", "add a a a", "a", "1", " names",
                     "  names", "-", "names\n", "clear\n", "\tclear", "onesteps a a a a", "one_step a a a a",
                     "rests a a a", "total a a", "turned a a"]:
            self.refuse(desk, said, NoRow)

    def test_too_few_and_too_many_words(self):
        rights = {
            "put": None, "bits": 2, "plus": 3, "minus": 3, "times": 3, "quotient": 3, "lower": 3, "higher": 3,
            "onestep": 4, "root": 2, "rest": 3, "turn": 2, "sum": None, "way": 1, "clear": 0, "show": 1,
            "sixteen": 1, "raw": 1, "kind": 1, "order": 2, "flags": 0, "names": 0,
        }
        self.assertEqual(sorted(rights), sorted(WORDS))
        desk = desk_of(LEAST, [4])
        for word, right in rights.items():
            if right is not None:
                for many in range(8):
                    for name in ("a", "", "A", "b"):
                        if many != right:
                            self.refuse(desk, word + f" {name}" * many, NoRow)

    def test_words_without_signs(self):
        desk = desk_of(LEAST, [4])
        for said in [" plus b a a", "plus b a a ", "plus  b a a", "plus b  a a", "plus b a  a", "clear ", " clear",
                     "flags ", "names ", " names", "show  a", "show a ", "order a  a", "order a a ", "way in ",
                     "turn b a ", "bits b 1 ", "bits b  1", "bits  b 1", "root  b a", "kind a "]:
            self.refuse(desk, said, NoRow)
        # With the right number of words, a word without signs is no name, no figures, no way.
        for said in ["plus  a a", "plus b  a", "plus b a ", "show ", "order a ", "order  a", "turn b ", "sum b ",
                     "sum  a", "sum b a ", "sum b a  a", "put  1", "put  ", "bits  1", "root  a", "raw "]:
            self.refuse(desk, said, NoName)
        self.refuse(desk, "bits b ", NoBits)
        self.refuse(desk, "way ", NoWay)


class TestNoName(DeskTests):
    def test_what_is_no_name(self):
        desk = desk_of(LEAST, [4])
        for name in NO_NAMES:
            for said in ["put {} 1", "bits {} 1", "plus {} a a", "plus b {} a", "plus b a {}", "minus {} a a",
                         "times b {} a", "quotient b a {}", "lower {} a a", "higher b {} a", "onestep {} a a a",
                         "onestep b {} a a", "onestep b a {} a", "onestep b a a {}", "root {} a", "root b {}",
                         "rest {} a a", "rest b a {}", "turn {} a", "turn b {}", "sum {} a", "sum b {}",
                         "sum b a a {} a", "show {}", "sixteen {}", "raw {}", "kind {}", "order {} a",
                         "order a {}"]:
                self.refuse(desk, said.format(name), NoName)

    def test_by_which_nothing_is_kept(self):
        desk = desk_of(LEAST, [4])
        for said in ["plus a b a", "plus a a b", "plus b b b", "minus c b a", "times c a b", "quotient c b b",
                     "lower c b a", "higher c a b", "onestep c b a a", "onestep c a b a", "onestep c a a b",
                     "root b b", "root c b", "rest c a b", "turn b b", "sum b b", "sum c a a a b", "show b",
                     "sixteen b", "raw b", "kind b", "order a b", "order b a", "show abcdefgh"]:
            self.refuse(desk, said, NoName)

    def test_refused_ones_are_not_kept(self):
        desk = Desk(2, 2)
        for said, refusal in [("put new x", NoText), ("bits new 99", NoBits), ("plus new a b", NoName),
                              ("put new still 9", NoParts)]:
            self.refuse(desk, said, refusal)
            self.refuse(desk, "show new", NoName)
        self.assertEqual(desk.say("names"), "-")


class TestOrderOfRefusals(DeskTests):
    def test_from_the_left(self):
        desk = desk_of(LEAST, [4, 12])
        told = [
            ("nope", NoRow), ("plus A", NoRow), ("plus A A A A", NoRow), ("bits A 99 9", NoRow),
            ("way nope nope", NoRow), ("show A A", NoRow), ("sixteen b b", NoRow), ("put A", NoRow),
            ("put A x", NoName), ("put A ", NoName), ("put abcdefghi loud 0", NoName), ("put c x", NoText),
            ("put c still 9x", NoText), ("put c still 9", NoParts), ("bits A 99", NoName), ("bits A x", NoName),
            ("bits c 99", NoBits), ("bits c x", NoBits), ("plus A a a", NoName), ("plus c c a", NoName),
            ("sixteen c", NoName), ("sixteen B", NoName), ("sixteen b", NoNumber), ("root A a", NoName),
        ]
        for said, refusal in told:
            self.refuse(desk, said, refusal)

    def test_flags_and_way_stay(self):
        desk = desk_of(LEAST, [4, 13], "up")
        desk.say("put c 0.1")
        for said, refusal in [("put c x", NoText), ("put c loud 0", NoParts), ("bits c 99", NoBits),
                              ("quotient c b d", NoName), ("plus D b b", NoName), ("way nope", NoWay),
                              ("sixteen b", NoNumber), ("clear all", NoRow), ("lower c b d", NoName)]:
            self.refuse(desk, said, refusal)
            self.assertEqual(desk.say("flags"), "near faint")
            self.assertEqual(desk.say("raw c"), "1")
        self.assertEqual(desk.say("put c 0.1"), "near faint")
        self.assertEqual(desk.say("raw c"), "1")


if __name__ == "__main__":
    unittest.main()
