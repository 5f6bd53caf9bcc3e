"""Points 2 and 6: whole numbers and shapes."""

import unittest

from helper import NO_WHOLES
from nearfold.errors import NoShape
from nearfold.shapes import is_whole, shape_of


class TestWholeNumbers(unittest.TestCase):
    def test_whole_numbers_of_any_size_and_sign(self):
        for number in (0, 1, -1, 2, 255, -256, 2 ** 63, -2 ** 64, 10 ** 999, -10 ** 999):
            self.assertIs(is_whole(number), True)

    def test_what_is_no_whole_number(self):
        for thing in NO_WHOLES:
            self.assertIs(is_whole(thing), False, thing)


class TestShapes(unittest.TestCase):
    def test_all_shapes_within_the_bounds(self):
        for e in range(2, 12):
            for m in range(2, 61):
                shape = shape_of(e, m)
                self.assertIs(type(shape), tuple)
                self.assertEqual(shape, (e, m))

    def test_by_name(self):
        self.assertEqual(shape_of(m=60, e=2), (2, 60))

    def test_beyond_the_bounds_of_e(self):
        for e in (1, 12, 0, -2, -1, 13, 60, 10 ** 500, -10 ** 500):
            for m in (2, 30, 60):
                with self.assertRaises(NoShape, msg=(e, m)):
                    shape_of(e, m)

    def test_beyond_the_bounds_of_m(self):
        for m in (1, 61, 0, -2, -1, 62, 10 ** 500, -10 ** 500):
            for e in (2, 5, 11):
                with self.assertRaises(NoShape, msg=(e, m)):
                    shape_of(e, m)

    def test_beyond_both_bounds(self):
        for e, m in ((1, 1), (12, 61), (1, 61), (12, 1), (60, 11)):
            with self.assertRaises(NoShape):
                shape_of(e, m)

    def test_no_whole_numbers(self):
        for thing in NO_WHOLES:
            for e, m in ((thing, 5), (5, thing), (thing, thing), (thing, 99), (99, thing)):
                with self.assertRaises(NoShape, msg=(e, m)):
                    shape_of(e, m)

    def test_what_is_refused_is_not_changed(self):
        things = [5, 5]
        with self.assertRaises(NoShape):
            shape_of(things, things)
        self.assertEqual(things, [5, 5])


if __name__ == "__main__":
    unittest.main()
