"""Promise [4] and the interface of pricebend/errors.py."""

import unittest

from helper import ALL_REFUSALS, OF_A_FIELD, OF_A_TEXT, check_class
from pricebend import errors


class TheClasses(unittest.TestCase):
    def test_bend_error_stands_beneath_value_error(self):
        self.assertEqual(errors.BendError.__bases__, (ValueError,))

    def test_bend_error_is_made_of_one_text(self):
        error = errors.BendError("told so")
        self.assertEqual(str(error), "told so")
        self.assertRaises(TypeError, errors.BendError)

    def test_there_are_thirteen(self):
        self.assertEqual(len(set(ALL_REFUSALS)), 13)
        self.assertEqual(len({getattr(errors, name) for name in ALL_REFUSALS}), 13)

    def test_each_stands_straight_beneath_bend_error_and_no_other(self):
        for name in ALL_REFUSALS:
            with self.subTest(name=name):
                self.assertEqual(getattr(errors, name).__bases__, (errors.BendError,))

    def test_each_bears_its_name(self):
        for name in ALL_REFUSALS + ("BendError",):
            self.assertEqual(getattr(errors, name).__name__, name)

    def test_each_is_caught_as_itself_and_as_none_of_the_others(self):
        for name in ALL_REFUSALS:
            with self.subTest(name=name):
                check_class(self, getattr(errors, name)("abc"), name)


class TheFields(unittest.TestCase):
    def test_those_without_a_field_are_made_of_one_text(self):
        for name in OF_A_TEXT:
            for text in ("", "told so", "a\nb"):
                with self.subTest(name=name, text=text):
                    self.assertEqual(str(getattr(errors, name)(text)), text)

    def test_those_with_a_field_are_made_of_it(self):
        handed = {
            "word": ("", "a", "abcdefghijkl"),
            "letters": (13, 24, 0),
            "many": (201, 10 ** 39, 0),
            "number": (-1, 0, 10 ** 39),
            "name": ("a", "word", "abcdefgh"),
        }
        for name, field in OF_A_FIELD.items():
            for worth in handed[field]:
                with self.subTest(name=name, worth=worth):
                    told = getattr(getattr(errors, name)(worth), field)
                    self.assertEqual(told, worth)
                    self.assertIs(type(told), type(worth))

    def test_no_two_objects_share_a_field(self):
        one = errors.NotOn("a")
        other = errors.NotOn("b")
        self.assertEqual((one.word, other.word), ("a", "b"))

    def test_a_field_belongs_to_its_class_alone(self):
        for name in ALL_REFUSALS:
            error = getattr(errors, name)("abc")
            for owner, field in OF_A_FIELD.items():
                with self.subTest(name=name, field=field):
                    self.assertEqual(hasattr(error, field), owner == name)


if __name__ == "__main__":
    unittest.main()
