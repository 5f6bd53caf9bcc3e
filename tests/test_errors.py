"""The interface of nearfold.errors."""

import unittest

from nearfold import errors

REFUSALS = [
    "NoShape", "NoBits", "NoParts", "NoNumber", "NoWay", "NoFlags",
    "NoWhole", "NoStep", "NoWord", "NoText", "NoName", "NoRow",
]


class TestErrors(unittest.TestCase):
    def test_any_refusal_stands_straight_under_value_error(self):
        self.assertEqual(errors.FoldError.__bases__, (ValueError,))

    def test_each_refusal_stands_straight_under_fold_error(self):
        for name in REFUSALS:
            with self.subTest(name):
                self.assertEqual(getattr(errors, name).__bases__, (errors.FoldError,))

    def test_no_refusal_stands_under_another_one(self):
        classes = [getattr(errors, name) for name in REFUSALS]
        self.assertEqual(len(set(classes)), 12)
        for one in classes:
            for other in classes:
                self.assertEqual(issubclass(one, other), one is other)

    def test_each_class_has_its_own_name(self):
        for name in REFUSALS + ["FoldError"]:
            self.assertEqual(getattr(errors, name).__name__, name)

    def test_each_one_is_caught_as_any_refusal(self):
        for name in REFUSALS:
            refusal = getattr(errors, name)
            for wide in (refusal, errors.FoldError, ValueError):
                with self.assertRaises(wide):
                    raise refusal("x")

    def test_no_whole_keeps_its_kind(self):
        for kind in ("end", "loud", "still"):
            self.assertEqual(errors.NoWhole(kind).kind, kind)
            self.assertEqual(errors.NoWhole(kind=kind).kind, kind)

    def test_no_text_keeps_its_at(self):
        for at in (0, 1, 7, 300):
            self.assertEqual(errors.NoText(at).at, at)
            self.assertEqual(errors.NoText(at=at).at, at)

    def test_these_two_are_made_of_one_thing(self):
        for made in (errors.NoWhole, errors.NoText):
            with self.assertRaises(TypeError):
                made()
            with self.assertRaises(TypeError):
                made(1, 2)


if __name__ == "__main__":
    unittest.main()
