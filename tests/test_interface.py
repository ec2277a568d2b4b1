"""The interface: every name that the document lists is defined in its module and takes what is listed."""

import importlib
import inspect
import unittest

from helper import ALL_REFUSALS

# How many arguments each function takes by their places.
FUNCTIONS = {
    "words": {"word_of": 1},
    "scripts": {"is_script": 1, "ends_of": 1, "counts_of": 1, "turned_back": 1, "mirror_of": 1, "done_on": 2,
                "set_behind": 2, "led_through": 2},
    "texts": {"script_text": 1, "read_script": 1},
    "fractions": {"fraction_of": 2, "plus": 2, "minus": 2, "times": 2, "over": 2, "is_less": 2},
    "prices": {"price_of": 3, "price_by": 2, "by_one": 1, "cost_of": 2, "cost_by_one": 2},
    "table": {"least_cost": 3, "first_script": 3},
    "numbers": {"numbers_at": 3, "numbers_hold": 5},
    "cones": {"worth_at": 2, "side_of": 2, "turn_of": 3},
    "shapes": {"is_shape": 1, "lies_in": 2, "cut_by": 2},
    "parting": {"parted": 2, "part_at": 2, "parting_holds": 3},
    "plane": {"corners_by_one": 1},
    "counted": {"how_many": 3, "all_scripts": 3, "script_by": 4, "number_of": 4},
}


def module_of(name):
    return importlib.import_module("pricebend." + name)


class Interface(unittest.TestCase):
    def test_functions(self):
        for name, functions in FUNCTIONS.items():
            for function, many in functions.items():
                with self.subTest(module=name, function=function):
                    asked = getattr(module_of(name), function)
                    self.assertEqual(asked.__module__, "pricebend." + name)
                    self.assertEqual(len(inspect.signature(asked).parameters), many)

    def test_the_bottom_that_may_be_left_out(self):
        self.assertEqual(inspect.signature(module_of("fractions").fraction_of).parameters["bottom"].default, 1)

    def test_whole(self):
        self.assertIs(type(module_of("shapes").WHOLE), tuple)

    def test_the_refusals(self):
        errors = module_of("errors")
        for name in ALL_REFUSALS:
            self.assertEqual(getattr(errors, name).__bases__, (errors.BendError,))
        self.assertEqual(errors.BendError.__bases__, (ValueError,))

    def test_the_desk_and_its_method(self):
        desk = module_of("desk").Desk
        self.assertEqual(len(inspect.signature(desk).parameters), 0)
        self.assertIn("tell", vars(desk))
        self.assertEqual(len(inspect.signature(desk().tell).parameters), 1)


if __name__ == "__main__":
    unittest.main()
