"""Promise [11]: scripts written as texts and read of them, and the refusal of all other texts."""

import itertools
import re
import unittest

from helper import SIGNS, SMALL, all_scripts_of, check_refused, is_plain, some_scripts
from pricebend.scripts import ends_of, is_script
from pricebend.texts import read_script, script_text

KEEP, OTHER, OUT, IN = ("keep", "a"), ("other", "b", "c"), ("out", "d"), ("in", "e")
MIXED = (KEEP, OTHER, OUT, IN)
CASES = some_scripts(300, 11) + some_scripts(100, 12, SMALL) + some_scripts(50, 13, "a")
STEP = r"(?:[a-z]|[a-z]>[a-z]|-[a-z]|\+[a-z])"
FORM = re.compile(f"{STEP}(?: {STEP})*")


def is_text_slowly(text):
    """Whether the text is written of some script, told by its form alone."""
    if text == "none":
        return True
    if not FORM.fullmatch(text):
        return False
    parts = text.split(" ")
    if any(len(part) == 3 and part[0] == part[2] for part in parts):
        return False
    first = [part for part in parts if part[0] != "+"]
    second = [part for part in parts if part[0] != "-"]
    return len(first) <= 12 and len(second) <= 12


class Written(unittest.TestCase):
    def test_told_ones(self):
        told = (
            ((), "none"),
            ((KEEP,), "a"),
            ((OTHER,), "b>c"),
            ((OUT,), "-d"),
            ((IN,), "+e"),
            (MIXED, "a b>c -d +e"),
            (MIXED[::-1], "+e -d b>c a"),
            ((("other", "z", "a"), ("other", "a", "z")), "z>a a>z"),
            (tuple(("keep", letter) for letter in "none"), "n o n e"),
            ((KEEP,) * 12, "a a a a a a a a a a a a"),
            ((OUT,) * 12 + (IN,) * 12, " ".join(["-d"] * 12 + ["+e"] * 12)),
            ((OTHER,) * 12, " ".join(["b>c"] * 12)),
        )
        for script, text in told:
            with self.subTest(text=text):
                self.assertEqual(script_text(script), text)
                self.assertEqual(read_script(text), script)

    def test_each_letter_in_each_kind_of_step(self):
        for a in SMALL:
            for step, text in ((("keep", a), a), (("out", a), "-" + a), (("in", a), "+" + a)):
                self.assertEqual(script_text((step,)), text)
                self.assertEqual(read_script(text), (step,))
            for b in SMALL.replace(a, ""):
                self.assertEqual(script_text((("other", a, b),)), f"{a}>{b}")
                self.assertEqual(read_script(f"{a}>{b}"), (("other", a, b),))

    def test_the_example_leads_from_abd_to_ace(self):
        self.assertEqual(ends_of(read_script("a b>c -d +e")), ("abd", "ace"))

    def test_written_and_read_back(self):
        for script in CASES + all_scripts_of("ab", 4):
            text = script_text(script)
            if read_script(text) != script or not is_text_slowly(text):
                self.fail(script)

    def test_words_of_none_to_twelve_letters(self):
        for many in range(13):
            for step in MIXED:
                self.assertEqual(read_script(script_text((step,) * many)), (step,) * many)
            row = (OUT, IN) * many
            self.assertEqual(read_script(script_text(row)), row)


class Refused(unittest.TestCase):
    def refused(self, text):
        with self.subTest(text=text):
            check_refused(self, "NoText", None, read_script, text)

    def check(self, text):
        """One check for any text, without subTest, since there are very many."""
        if is_text_slowly(text):
            script = read_script(text)
            self.assertIs(is_script(script), True, text)
            self.assertEqual(script_text(script), text)
        else:
            check_refused(self, "NoText", None, read_script, text)

    def test_no_text_at_all(self):
        self.refused("")

    def test_blanks(self):
        for text in (" ", "  ", " a", "a ", " a ", "a  b", "a   b", "- a", "-a ", "+ a", "a >b", "a> b", "a > b",
                     " a b>c -d +e", "a b>c -d +e ", "a  b>c -d +e", "a b>c -d  +e", "ab", "a b>c-d +e", "-a+b"):
            self.refused(text)

    def test_the_end_of_a_line(self):
        for text in ("\n", "a\n", "\na", "a\nb", "a \nb", "a\n b", "-\na", "-a\n", "a>\nb", "a>b\n", "none\n", "\nnone",
                     "a b>c -d +e\n", "a\nb>c -d +e", "a b>c\n-d +e", "\n a"):
            self.refused(text)

    def test_none_beside_other_steps_and_other_writings_of_it(self):
        for text in ("none a", "a none", "none none", "-a none", "none +b", "none ", " none", "None", "NONE", "nonee",
                     "non", "one", "no ne", "none.", "-none", "+none", "none>a", "none b>c", "a none b"):
            self.refused(text)

    def test_an_other_of_like_letters(self):
        for a in SMALL:
            self.refused(f"{a}>{a}")
            self.refused(f"a {a}>{a} -b")

    def test_parts_that_are_no_steps(self):
        for part in ("-", "+", ">", "a>", ">a", "->", "+>", "--", "++", "-+", "a-", "a+", "aa", "a>b>c", "a>bc", "ab>c",
                     "-ab", "+ab", "-a>b", "+a>b", "a>-b", "a>+b", "--a", "++a", "-+a", "a<b", "a-b", "a+b", ">>>",
                     "A", "-A", "+A", "A>b", "a>B", "0", "-0", "+0", "a>0", "1>a", ".", "keep", "out", "in", "other",
                     "a,b", "a>>b", "=a", "~a", "a=b", "()", "a;", "'a'"):
            self.refused(part)
            self.refused("a " + part)
            self.refused(part + " a")

    def test_twelve_letters_and_thirteen(self):
        for part in ("a", "b>c", "-d", "+e"):
            self.assertEqual(len(read_script(" ".join([part] * 12))), 12)
            self.refused(" ".join([part] * 13))
        both = ["-d"] * 12 + ["+e"] * 12
        self.assertEqual(len(read_script(" ".join(both))), 24)
        for part in ("a", "b>c", "-d", "+e"):
            self.refused(" ".join(both + [part]))
            self.refused(" ".join([part] + both))
        self.refused(" ".join(["a"] * 12 + ["-d"]))
        self.refused(" ".join(["a"] * 12 + ["+e"]))
        self.refused(" ".join(["a"] * 100)[:200])
        self.refused("a" * 200)
        self.refused(" " * 200)

    def test_every_short_text(self):
        written = {script_text(script): script for script in all_scripts_of("ab", 3)}
        for many in range(7):
            for signs in itertools.product("ab>-+ ", repeat=many):
                text = "".join(signs)
                if text in written:
                    self.assertEqual(read_script(text), written[text])
                else:
                    check_refused(self, "NoText", None, read_script, text)

    def changed(self, text):
        """The text with one sign put in, left out, or in the place of another, at any place."""
        for at in range(len(text) + 1):
            for sign in SIGNS:
                yield text[:at] + sign + text[at:]
        for at in range(len(text)):
            yield text[:at] + text[at + 1:]
            for sign in SIGNS:
                yield text[:at] + sign + text[at + 1:]

    def test_one_sign_changed_at_any_place(self):
        told = ["none", "n o n e", "a", "b>c", "-d", "+e", "a b>c -d +e", "+e -d b>c a", "-a +a -a +a"]
        told += [script_text(script) for script in CASES[::30]]
        told += [" ".join([part] * 12) for part in ("a", "b>c", "-d", "+e")]
        self.assertGreater(len(told), 25)
        for text in told:
            for wrong in self.changed(text):
                self.check(wrong)


class WhatIsTold(unittest.TestCase):
    def test_it_is_made_of_plain_things_alone(self):
        for script in CASES[::10]:
            text = script_text(script)
            self.assertIs(type(text), str)
            self.assertTrue(is_plain(read_script(text)))

    def test_a_refusal_changes_no_later_answer(self):
        check_refused(self, "NoText", None, read_script, "a>a")
        self.assertEqual(read_script("a>b"), (("other", "a", "b"),))
        check_refused(self, "NoText", None, read_script, "none none")
        self.assertEqual(read_script("none"), ())


if __name__ == "__main__":
    unittest.main()
