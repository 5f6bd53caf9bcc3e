"""Point 15: flags and their words, and point 2: each list is the asker's own."""

import unittest

from helper import NO_WHOLES
from nearfold.errors import NoFlags
from nearfold.flags import FAINT, NEAR, ODD, OVER, VOID, flag_words


class TestFlags(unittest.TestCase):
    def test_each_one_alone(self):
        self.assertEqual(flag_words(0), [])
        self.assertEqual(flag_words(1), ["near"])
        self.assertEqual(flag_words(2), ["faint"])
        self.assertEqual(flag_words(4), ["over"])
        self.assertEqual(flag_words(8), ["void"])
        self.assertEqual(flag_words(16), ["odd"])

    def test_each_one_by_its_name(self):
        self.assertEqual((NEAR, FAINT, OVER, VOID, ODD), (1, 2, 4, 8, 16))

    def test_all_flags_in_the_told_order(self):
        told = [(1, "near"), (2, "faint"), (4, "over"), (8, "void"), (16, "odd")]
        seen = []
        for flags in range(32):
            wanted, left = [], flags
            for worth, word in reversed(told):
                if left >= worth:
                    wanted.insert(0, word)
                    left -= worth
            words = flag_words(flags)
            self.assertIs(type(words), list)
            self.assertEqual(words, wanted)
            self.assertNotIn(words, seen)
            seen.append(words)
        self.assertEqual(flag_words(31), ["near", "faint", "over", "void", "odd"])

    def test_beyond(self):
        for flags in (-1, 32, 33, 63, 64, -31, -32, 2 ** 64, 10 ** 900, -10 ** 900):
            with self.assertRaises(NoFlags, msg=flags):
                flag_words(flags)

    def test_other_things(self):
        for thing in NO_WHOLES + ["near", ["near"]]:
            with self.assertRaises(NoFlags, msg=thing):
                flag_words(thing)

    def test_a_list_is_the_asker_s_own(self):
        for flags in (0, 1, 5, 31):
            first = flag_words(flags)
            kept = list(first)
            second = flag_words(flags)
            self.assertIsNot(first, second)
            second.append("more")
            second.insert(0, "more")
            self.assertEqual(first, kept)
            flag_words(30)
            self.assertEqual(first, kept)
            first.clear()
            self.assertEqual(flag_words(flags), kept)

    def test_what_is_refused_is_not_changed(self):
        things = [1]
        with self.assertRaises(NoFlags):
            flag_words(things)
        self.assertEqual(things, [1])


if __name__ == "__main__":
    unittest.main()
