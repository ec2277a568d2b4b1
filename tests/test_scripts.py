"""Promises [2], [3], [7], [8] and [9]: what a script is, its ends, its counts, turned and mirrored."""

import itertools
import unittest

from helper import all_scripts_of, is_plain, some_scripts
from pricebend.scripts import counts_of, ends_of, is_script, mirror_of, turned_back

KEEP, OTHER, OUT, IN = ("keep", "a"), ("other", "b", "c"), ("out", "d"), ("in", "e")
MIXED = (KEEP, OTHER, OUT, IN)
KINDS = ("keep", "other", "out", "in")

# None of these is a letter, a kind of step, a step, or a script.
STRANGE = (
    None, True, False, 0, 1, 2, -1, 97, 10 ** 39,
    "", "A", "Z", "`", "{", "0", " ", "~", ">", "-", "+", ".", "\n", "ab", "aa", "a\n", "\na", " a", "a ",
    "Keep", "keep\n", "keep ", "kee", "ut", "inn", "others", "none", "ke", "0a",
    ("a",), ("keep",), ("other", "a"), ("out",), ("in",), ("b", "c"), (True,), (None,), (0,),
    ((),), (("a",),), ((((),),),), (("keep", "a"), "b"), ("keep", ("a",)), (("keep",), "a"),
)
CASES = some_scripts(400, 7)


def ends_slowly(script):
    first = second = ""
    for step in script:
        if step[0] in ("keep", "other", "out"):
            first += step[1]
        if step[0] in ("keep", "in"):
            second += step[1]
        if step[0] == "other":
            second += step[2]
    return first, second


def counts_slowly(script):
    kinds = [step[0] for step in script]
    rows = [kind for kind, _ in itertools.groupby(kinds)]
    return kinds.count("other"), kinds.count("out") + kinds.count("in"), rows.count("out") + rows.count("in")


class WhatAScriptIs(unittest.TestCase):
    def a_script(self, thing):
        with self.subTest(thing=thing):
            self.assertIs(is_script(thing), True)

    def no_script(self, thing):
        with self.subTest(thing=thing):
            self.assertIs(is_script(thing), False)

    def test_no_steps(self):
        self.a_script(())

    def test_each_kind_of_step_with_each_letter(self):
        for a in "abcdefghijklmnopqrstuvwxyz":
            b = "z" if a != "z" else "a"
            for step in (("keep", a), ("other", a, b), ("other", b, a), ("out", a), ("in", a)):
                self.a_script((step,))

    def test_scripts_of_all_kinds(self):
        self.a_script(MIXED)
        for script in CASES:
            self.a_script(script)

    def test_an_other_of_like_letters(self):
        for a in "amz":
            self.no_script((("other", a, a),))
            self.no_script((KEEP, ("other", a, a), OUT))

    def test_twelve_and_thirteen_letters(self):
        for step in MIXED:
            self.a_script((step,) * 12)
            self.no_script((step,) * 13)
        self.a_script((OUT,) * 12 + (IN,) * 12)
        self.a_script((IN, OUT) * 12)
        self.no_script((IN, OUT) * 12 + (OUT,))
        self.no_script((IN, OUT) * 12 + (IN,))
        self.no_script((OUT,) * 12 + (KEEP,))
        self.no_script((IN,) * 12 + (KEEP,))
        self.no_script((KEEP,) * 6 + (OTHER,) * 6 + (OUT,))
        self.no_script((KEEP,) * 6 + (OTHER,) * 6 + (IN,))
        self.a_script((KEEP,) * 6 + (OTHER,) * 5 + (OUT, IN))
        self.no_script((IN,) * 13 + (OUT,) * 2)
        self.no_script((KEEP,) * 40)

    def test_things_that_are_no_tuples_of_steps(self):
        for thing in STRANGE:
            self.no_script(thing)
        for thing in MIXED + KINDS + (("keep", "a", "b"), "keep a", "abc"):
            self.no_script(thing)

    def test_another_thing_for_a_step(self):
        for at in range(4):
            for thing in STRANGE + KINDS + ("a", (), (KEEP,), MIXED):
                self.no_script(MIXED[:at] + (thing,) + MIXED[at + 1:])

    def test_a_thing_more_among_the_steps(self):
        for at in range(5):
            for thing in STRANGE + KINDS + ("a", (), (KEEP,), MIXED):
                self.no_script(MIXED[:at] + (thing,) + MIXED[at:])

    def test_a_part_less_in_a_step(self):
        for at, step in enumerate(MIXED):
            for part in range(len(step)):
                shorter = step[:part] + step[part + 1:]
                self.no_script(MIXED[:at] + (shorter,) + MIXED[at + 1:])
                self.no_script((shorter,))

    def test_a_part_more_in_a_step(self):
        for at, step in enumerate(MIXED):
            for part in range(len(step) + 1):
                for thing in STRANGE + KINDS + ("f", ()):
                    longer = step[:part] + (thing,) + step[part:]
                    self.no_script(MIXED[:at] + (longer,) + MIXED[at + 1:])
                    self.no_script((longer,))

    def test_another_thing_for_a_part_of_a_step(self):
        for at, step in enumerate(MIXED):
            for part in range(len(step)):
                for thing in STRANGE + ((), KEEP, MIXED):
                    wrong = step[:part] + (thing,) + step[part + 1:]
                    self.no_script(MIXED[:at] + (wrong,) + MIXED[at + 1:])
                    self.no_script((wrong,))

    def test_a_kind_for_a_letter_and_a_letter_for_a_kind(self):
        for step in MIXED:
            for kind in KINDS:
                self.no_script((step[:-1] + (kind,),))
            self.no_script((("a",) + step[1:],))

    def test_a_kind_with_the_letters_of_another_kind(self):
        for kind in ("keep", "out", "in"):
            self.no_script(((kind, "a", "b"),))
        self.no_script((("other", "a"),))
        self.no_script((("other", "a", "b", "c"),))

    def test_tuples_within_tuples(self):
        thing = ()
        for _ in range(300):
            thing = (thing,)
            self.assertIs(is_script(thing), False)
            self.assertIs(is_script((("keep", thing),)), False)
            self.assertIs(is_script(((thing, "a"),)), False)
        self.no_script((MIXED,))
        self.no_script((MIXED, MIXED))


class TheEnds(unittest.TestCase):
    def test_told_ones(self):
        self.assertEqual(ends_of(()), ("", ""))
        self.assertEqual(ends_of(MIXED), ("abd", "ace"))
        self.assertEqual(ends_of((OUT,) * 12), ("d" * 12, ""))
        self.assertEqual(ends_of((IN,) * 12), ("", "e" * 12))
        self.assertEqual(ends_of((OUT, IN) * 12), ("d" * 12, "e" * 12))
        self.assertEqual(ends_of((OTHER,)), ("b", "c"))

    def test_many(self):
        for script in CASES:
            with self.subTest(script=script):
                self.assertEqual(ends_of(script), ends_slowly(script))


class TheCounts(unittest.TestCase):
    def test_told_ones(self):
        told = (
            ((), (0, 0, 0)),
            ((KEEP,), (0, 0, 0)),
            ((OTHER,), (1, 0, 0)),
            ((OUT,), (0, 1, 1)),
            ((IN,), (0, 1, 1)),
            ((OUT, IN), (0, 2, 2)),
            ((IN, OUT), (0, 2, 2)),
            ((OUT, OUT), (0, 2, 1)),
            ((IN, IN, IN), (0, 3, 1)),
            ((OUT, KEEP, OUT), (0, 2, 2)),
            ((IN, OTHER, IN), (1, 2, 2)),
            ((OUT, IN, OUT, IN), (0, 4, 4)),
            ((OUT, OUT, IN, IN), (0, 4, 2)),
            ((OTHER, OTHER, KEEP, OTHER), (3, 0, 0)),
            (MIXED, (1, 2, 2)),
            ((OUT,) * 12 + (IN,) * 12, (0, 24, 2)),
            ((OUT, IN) * 12, (0, 24, 24)),
            ((("out", "a"), ("out", "b"), ("in", "b"), ("in", "a")), (0, 4, 2)),
        )
        for script, counts in told:
            with self.subTest(script=script):
                self.assertEqual(counts_of(script), counts)

    def test_many(self):
        for script in CASES + all_scripts_of("ab", 4):
            if counts_of(script) != counts_slowly(script):
                self.fail(script)


class TurnedAndMirrored(unittest.TestCase):
    def test_told_ones(self):
        self.assertEqual(turned_back(()), ())
        self.assertEqual(turned_back(MIXED), (("keep", "a"), ("other", "c", "b"), ("in", "d"), ("out", "e")))
        self.assertEqual(mirror_of(()), ())
        self.assertEqual(mirror_of(MIXED), (("in", "e"), ("out", "d"), ("other", "b", "c"), ("keep", "a")))

    def test_turned_it_leads_back(self):
        for script in CASES:
            with self.subTest(script=script):
                first, second = ends_of(script)
                turned = turned_back(script)
                self.assertIs(is_script(turned), True)
                self.assertEqual(ends_of(turned), (second, first))
                self.assertEqual(counts_of(turned), counts_of(script))
                self.assertEqual(turned_back(turned), script)

    def test_mirrored_it_leads_between_the_words_told_backwards(self):
        for script in CASES:
            with self.subTest(script=script):
                first, second = ends_of(script)
                mirrored = mirror_of(script)
                self.assertIs(is_script(mirrored), True)
                self.assertEqual(ends_of(mirrored), (first[::-1], second[::-1]))
                self.assertEqual(counts_of(mirrored), counts_of(script))
                self.assertEqual(list(mirrored), list(reversed(script)))

    def test_the_order_of_the_steps_stays_in_a_turned_script(self):
        turned = {"keep": "keep", "other": "other", "out": "in", "in": "out"}
        for script in CASES:
            self.assertEqual([step[0] for step in turned_back(script)], [turned[step[0]] for step in script])


class WhatIsTold(unittest.TestCase):
    def test_it_is_made_of_plain_things_alone(self):
        for script in CASES[:100] + [(), MIXED]:
            for asked in (is_script, ends_of, counts_of, turned_back, mirror_of):
                with self.subTest(asked=asked.__name__, script=script):
                    self.assertTrue(is_plain(asked(script)))

    def test_counts_are_whole_numbers_and_no_truths(self):
        for script in ((), (OTHER,), (OUT,), MIXED):
            self.assertEqual([type(number) for number in counts_of(script)], [int, int, int])

    def test_it_hangs_on_what_is_handed_in_alone(self):
        before = [(ends_of(script), counts_of(script), turned_back(script)) for script in CASES]
        for thing in STRANGE:
            is_script(thing)
        after = [(ends_of(script), counts_of(script), turned_back(script)) for script in reversed(CASES)]
        self.assertEqual(before, after[::-1])

    def test_scripts_are_sorted_as_python_sorts_tuples(self):
        told = [mirror_of(mirror_of(script)) for script in ((KEEP,), (), (OUT,), (IN,), (OTHER,), (IN, KEEP))]
        self.assertEqual(sorted(told), [(), (IN,), (IN, KEEP), (KEEP,), (OTHER,), (OUT,)])


if __name__ == "__main__":
    unittest.main()
