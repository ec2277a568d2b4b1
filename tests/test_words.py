"""Promise [6]: words, and the refusal of all other texts."""

import unittest

from helper import SIGNS, SMALL, check_refused
from pricebend.words import word_of


class WordsTold(unittest.TestCase):
    def test_texts_of_none_to_twelve_small_letters(self):
        for many in range(13):
            for start in (0, 7, 14):
                text = SMALL[start:start + many]
                with self.subTest(text=text):
                    self.assertEqual(word_of(text), text)
                    self.assertIs(type(word_of(text)), str)

    def test_the_word_without_letters(self):
        self.assertEqual(word_of(""), "")

    def test_each_small_letter_alone_and_twelve_times(self):
        for letter in SMALL:
            self.assertEqual(word_of(letter), letter)
            self.assertEqual(word_of(letter * 12), letter * 12)


class TextsRefused(unittest.TestCase):
    def refused(self, text):
        with self.subTest(text=text):
            check_refused(self, "NoWord", None, word_of, text)

    def test_thirteen_letters_and_more(self):
        for text in ("a" * 13, SMALL[:13], SMALL, "z" * 200):
            self.refused(text)

    def test_each_sign_that_is_no_small_letter(self):
        for sign in SIGNS:
            if sign not in SMALL:
                for text in (sign, "a" + sign, sign + "a", "ab" + sign + "cd", "a" * 11 + sign, "a" * 12 + sign):
                    self.refused(text)

    def test_the_end_of_a_line(self):
        for text in ("\n", "a\n", "\na", "a\nb", "a" * 12 + "\n"):
            self.refused(text)

    def test_just_the_small_letters_are_letters(self):
        told = []
        for sign in SIGNS:
            try:
                told.append(word_of(sign))
            except ValueError:
                pass
        self.assertEqual("".join(told), SMALL)

    def test_things_that_are_no_texts(self):
        for thing in (True, False, None, 0, 1, (), ("a",), ("a", "b")):
            self.refused(thing)


if __name__ == "__main__":
    unittest.main()
