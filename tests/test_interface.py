"""The interface: names, arguments and default values of what has landed."""

import importlib
import inspect
import unittest

FUNCTIONS = {
    "shapes": ["is_whole(thing)", "shape_of(e, m)"],
    "bits": [
        "parts_of(shape, bits)", "joined(shape, sign, rank, body)", "size_of(shape, bits)",
        "kind_of(shape, bits)", "is_none(shape, bits)", "is_number(shape, bits)",
        "mark_of(shape, bits)", "none_of(shape, sign, mark, loud=False)", "told_none(shape)",
        "stilled(shape, bits)", "nought_of(shape, sign)", "least_of(shape, sign)",
        "greatest_of(shape, sign)", "end_of(shape, sign)", "turned(shape, bits)",
        "next_up(shape, bits)", "next_down(shape, bits)",
    ],
    "worths": [
        "grain_of(shape)", "height_of(shape, size)", "units_of(shape, bits)",
        "worth_of(shape, bits)", "by_units(shape, sign, many)", "lowest(top, bottom)",
        "held(shape, one, other)",
    ],
    "ways": ["way_of(word)"],
    "flags": ["flag_words(flags)"],
    "rounding": ["rounded(shape, sign, top, bottom, way='even')"],
    "nones": ["none_among(shape, rows)", "odd_answer(shape)"],
    "sums": ["plus(shape, one, other, way='even')", "minus(shape, one, other, way='even')"],
    "products": [
        "times(shape, one, other, way='even')", "one_step(shape, one, other, third, way='even')",
    ],
    "quotients": ["quotient(shape, one, other, way='even')", "rests(shape, one, other)"],
    "roots": ["root(shape, one, way='even')"],
    "orders": [
        "order_of(shape, one, other)", "place_of(shape, bits)", "by_place(shape, place)",
        "in_order(shape, rows)", "lower(shape, one, other)", "higher(shape, one, other)",
    ],
    "wholes": ["from_whole(shape, number, way='even')", "to_whole(shape, bits, way='even')"],
    "moves": [
        "moved(shape, bits, other_shape, way='even')", "holds(great, small)",
        "through(small, great, word, one, other, way='even')",
        "harmless(small, great, word, way='even')",
    ],
    "scan": ["good_begin(text, sixteen=False)", "is_good(text, sixteen=False)"],
    "tens": ["read(shape, text, way='even')"],
    "sixteens": ["read_sixteen(shape, text, way='even')", "sixteen_of(shape, bits)"],
    "shortest": ["shortest(shape, bits)"],
    "shown": ["shown(shape, bits)"],
    "totals": [
        "total(shape, rows, way='even')", "dots(shape, pairs, way='even')",
        "split(shape, one, other)",
    ],
}

METHODS = {
    ("ways", name): ["goes_on(self, sign, odd, side)", "ends(self, sign)"]
    for name in ("Way", "Even", "Off", "In", "Up", "Down")
}
METHODS["desk", "Desk"] = ["__init__(self, e, m)", "say(self, row)"]


class TestInterface(unittest.TestCase):
    def test_functions(self):
        for module_name, lines in FUNCTIONS.items():
            module = importlib.import_module("nearfold." + module_name)
            for line in lines:
                name = line.partition("(")[0]
                with self.subTest(module=module_name, name=name):
                    told = getattr(module, name)
                    self.assertEqual(name + str(inspect.signature(told)), line)

    def test_methods_stand_in_the_class_itself(self):
        for (module_name, class_name), lines in METHODS.items():
            made = getattr(importlib.import_module("nearfold." + module_name), class_name)
            for line in lines:
                name = line.partition("(")[0]
                with self.subTest(made=class_name, name=name):
                    told = vars(made)[name]
                    self.assertEqual(name + str(inspect.signature(told)), line)


if __name__ == "__main__":
    unittest.main()
