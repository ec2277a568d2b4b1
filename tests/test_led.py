"""Promises [5], its first sentence, and [10]: scripts done, set behind and led through one another."""

import random
import unittest

from helper import all_scripts_of, check_refused, is_plain, script_from, some_scripts, some_word
from pricebend.scripts import counts_of, done_on, ends_of, is_script, led_through, set_behind, turned_back

KEEP, OTHER, OUT, IN = ("keep", "a"), ("other", "b", "c"), ("out", "d"), ("in", "e")
MIXED = (KEEP, OTHER, OUT, IN)
CASES = some_scripts(300, 10)


class DoneOnAWord(unittest.TestCase):
    def test_told_ones(self):
        self.assertEqual(done_on((), ""), "")
        self.assertEqual(done_on(MIXED, "abd"), "ace")
        self.assertEqual(done_on((OUT,) * 12, "d" * 12), "")
        self.assertEqual(done_on((IN,) * 12, ""), "e" * 12)

    def test_many(self):
        for script in CASES:
            first, second = ends_of(script)
            self.assertEqual(done_on(script, first), second)

    def test_another_word_is_refused(self):
        words = ("", "a", "ab", "abd", "abda", "ace", "abe", "dba", "d" * 12, "d" * 11)
        for script in ((), MIXED, (OUT,) * 12, (IN,) * 12):
            for word in words:
                if word != ends_of(script)[0]:
                    with self.subTest(script=script, word=word):
                        check_refused(self, "NotOn", word, done_on, script, word)

    def test_the_second_word_is_refused_where_it_is_another_one(self):
        for script in CASES:
            first, second = ends_of(script)
            if first != second:
                check_refused(self, "NotOn", second, done_on, script, second)


class SetBehind(unittest.TestCase):
    def test_told_ones(self):
        self.assertEqual(set_behind((), ()), ())
        self.assertEqual(set_behind(MIXED, ()), MIXED)
        self.assertEqual(set_behind((), MIXED), MIXED)
        self.assertEqual(set_behind((KEEP, OUT), (IN, OTHER)), (KEEP, OUT, IN, OTHER))

    def test_the_words_need_not_meet(self):
        script = set_behind(MIXED, MIXED)
        self.assertEqual(script, MIXED + MIXED)
        self.assertEqual(ends_of(script), ("abdabd", "aceace"))

    def test_just_twelve_letters(self):
        for ahead in range(13):
            for step in MIXED:
                one, other = (step,) * ahead, (step,) * (12 - ahead)
                self.assertEqual(set_behind(one, other), (step,) * 12)
        both = (OUT,) * 12, (IN,) * 12
        self.assertEqual(set_behind(*both), both[0] + both[1])
        self.assertEqual(set_behind((OUT, IN) * 6, (IN, OUT) * 6), (OUT, IN) * 6 + (IN, OUT) * 6)

    def refused(self, letters, one, other):
        with self.subTest(one=one, other=other):
            check_refused(self, "TooLong", letters, set_behind, one, other)

    def test_too_many_letters_in_the_first_word_alone(self):
        self.refused(13, (OUT,) * 12, (OUT,))
        self.refused(13, (OUT,), (KEEP,) * 12)
        self.refused(13, (OUT, IN) * 6 + (OUT,), (KEEP,) * 6)
        self.refused(24, (OUT,) * 12, (OUT,) * 12)
        self.refused(20, (OUT,) * 8 + (KEEP,) * 2, (OUT,) * 10)

    def test_too_many_letters_in_the_second_word_alone(self):
        self.refused(13, (IN,) * 12, (IN,))
        self.refused(13, (IN,), (OTHER,) * 12)
        self.refused(24, (IN,) * 12, (IN,) * 12)
        self.refused(14, (IN,) * 2 + (KEEP,) * 6, (KEEP,) * 6)

    def test_too_many_letters_in_both_tells_those_of_the_first(self):
        self.refused(13, (KEEP,) * 12, (KEEP,))
        self.refused(13, (KEEP,) * 12, (OTHER, IN))
        self.refused(13, (KEEP,) * 12, (IN, OTHER))
        self.refused(14, (KEEP,) * 10 + (OUT,) * 2, (KEEP, OTHER) + (IN,))
        self.refused(24, (OUT,) * 12 + (IN,) * 10, (OUT,) * 12 + (IN,) * 3)
        self.refused(13, (OUT,) * 12 + (IN,) * 12, (OUT,) + (IN,) * 12)

    def test_many(self):
        told = refused = 0
        for one, other in zip(CASES, CASES[1:]):
            first, second = (a + b for a, b in zip(ends_of(one), ends_of(other)))
            if len(first) <= 12 and len(second) <= 12:
                told += 1
                self.assertEqual(set_behind(one, other), one + other)
                self.assertEqual(ends_of(one + other), (first, second))
            else:
                refused += 1
                self.refused(len(first) if len(first) > 12 else len(second), one, other)
        self.assertGreater(min(told, refused), 20)


class LedThrough(unittest.TestCase):
    def check(self, one, other):
        """One check for all pairs: no subTest, since there are very many."""
        script = led_through(one, other)
        told = (one, other, script)
        self.assertIs(is_script(script), True, told)
        self.assertEqual(ends_of(script), (ends_of(one)[0], ends_of(other)[1]), told)
        for count, ahead, behind in zip(counts_of(script), counts_of(one), counts_of(other)):
            self.assertLessEqual(count, ahead + behind, told)

    def test_told_ones(self):
        self.assertEqual(led_through((), ()), ())
        self.assertEqual(led_through((KEEP,), (KEEP,)), (KEEP,))
        self.assertEqual(led_through((OTHER,), (("other", "c", "b"),)), (("keep", "b"),))
        self.assertEqual(led_through((OTHER,), (("other", "c", "d"),)), (("other", "b", "d"),))
        self.assertEqual(led_through((IN,), (("out", "e"),)), ())
        self.assertEqual(led_through((OTHER,), (("out", "c"),)), (("out", "b"),))
        self.assertEqual(led_through((IN,), (("other", "e", "f"),)), (("in", "f"),))

    def test_no_steps_on_one_side(self):
        for script in ((IN,) * 12, (IN, IN)):
            self.check((), script)
            self.check(script, tuple(("keep", letter) for letter in ends_of(script)[1]))
            self.check(turned_back(script), ())

    def test_stretches_that_lie_across_each_other(self):
        outs = tuple(("out", a) for a in "bcb")
        ins = tuple(("in", a) for a in "cbc")
        for middle in ("b", "cb", "bcb", "bcbbcb"):
            made = tuple(("in", a) for a in middle)
            gone = tuple(("out", a) for a in middle)
            mixed = tuple(step for a in middle for step in (("out", "b"), ("in", a)))
            for ahead in (made, made + outs, outs + made, mixed, outs[:1] + made + outs[1:]):
                for behind in (gone, gone + ins, ins + gone, turned_back(mixed), ins[:2] + gone + ins[2:]):
                    self.check(ahead, behind)
                    self.check((KEEP,) + ahead + (KEEP,), (KEEP,) + behind + (KEEP,))

    def test_every_pair_of_short_scripts(self):
        for letters, most in (("a", 5), ("ab", 3)):
            by_first = {}
            for script in all_scripts_of(letters, most):
                by_first.setdefault(ends_of(script)[0], []).append(script)
            for others in by_first.values():
                for one in (script for scripts in by_first.values() for script in scripts):
                    if ends_of(one)[1] == ends_of(others[0])[0]:
                        for other in others:
                            self.check(one, other)

    def test_very_many_pairs(self):
        dice = random.Random(5)
        for letters in ("a", "ab", "abc", "abcdefghijklmnopqrstuvwxyz"):
            for _ in range(4000):
                one = script_from(dice, some_word(dice, letters), letters)
                other = script_from(dice, ends_of(one)[1], letters)
                self.check(one, other)

    def test_long_stretches_and_words_of_twelve(self):
        dice = random.Random(6)
        for letters in ("a", "ab"):
            for _ in range(3000):
                first = "".join(dice.choice(letters) for _ in range(12))
                one = script_from(dice, first, letters)
                self.check(one, script_from(dice, ends_of(one)[1], letters))
        self.check((OUT,) * 12, (IN,) * 12)
        self.check((OUT,) * 12 + (IN,) * 12, (("out", "e"),) * 12 + (("in", "d"),) * 12)
        self.check((OUT, IN) * 12, (("in", "d"), ("out", "e")) * 12)

    def test_a_script_and_itself_turned(self):
        for script in CASES:
            self.check(script, turned_back(script))

    def test_scripts_that_do_not_meet_are_refused(self):
        refused = 0
        for one, other in zip(CASES, CASES[1:]):
            if ends_of(one)[1] != ends_of(other)[0]:
                refused += 1
                check_refused(self, "NotOn", ends_of(one)[1], led_through, one, other)
        self.assertGreater(refused, 100)
        check_refused(self, "NotOn", "", led_through, (), (KEEP,))
        check_refused(self, "NotOn", "a", led_through, (KEEP,), ())
        check_refused(self, "NotOn", "c", led_through, (OTHER,), (OTHER,))
        check_refused(self, "NotOn", "ace", led_through, MIXED, MIXED)
        check_refused(self, "NotOn", "ab", led_through, (KEEP, ("keep", "b")), (("keep", "b"), KEEP))


class WhatIsTold(unittest.TestCase):
    def test_it_is_made_of_plain_things_alone(self):
        for script in CASES[:100]:
            first = ends_of(script)[0]
            self.assertIs(type(done_on(script, first)), str)
            self.assertTrue(is_plain(set_behind(script, ())))
            self.assertTrue(is_plain(led_through(script, turned_back(script))))

    def test_a_refusal_changes_no_later_answer(self):
        before = led_through(MIXED, turned_back(MIXED))
        check_refused(self, "NotOn", "ace", led_through, MIXED, MIXED)
        check_refused(self, "TooLong", 15, set_behind, MIXED * 4, MIXED)
        check_refused(self, "NotOn", "ace", done_on, MIXED, "ace")
        self.assertEqual(led_through(MIXED, turned_back(MIXED)), before)
        self.assertEqual(set_behind(MIXED, MIXED), MIXED + MIXED)
        self.assertEqual(done_on(MIXED, "abd"), "ace")


if __name__ == "__main__":
    unittest.main()
