"""Promises [22] and [23], and [5] as far as it speaks of them: all prices parted by the counts that are least."""

import functools
import random
import time
import unittest

from helper import JUNK, SMALL, check_refused, is_plain, is_same, prices_up_to, scripts_between, shape_slowly
from helper import some_pair, some_price, some_word, with_one_amiss, words_over, worth
from pricebend.parting import part_at, parted, parting_holds
from pricebend.prices import cost_of
from pricebend.scripts import counts_of, ends_of
from pricebend.shapes import WHOLE, is_shape, lies_in
from pricebend.table import least_cost
from pricebend.texts import read_script

GREAT = 10 ** 39
SIXES = (("cbbabc", "acdbda"), ("ffefbe", "dedcba"), ("dcdabb", "adadbd"), ("abcdef", "fedcba"), ("aababb", "babaab"),
         ("abcdef", "ghijkl"), ("aaaaaa", "aaaaaa"), ("aaaaaa", "bbbbbb"), ("abcdef", "bcdefa"), ("ababab", "bababa"))


def some_pairs(many, seed):
    dice = random.Random(seed)
    return [some_pair(dice, 6) for _ in range(many)]


PAIRS = some_pairs(150, 221) + list(SIXES)


@functools.lru_cache(None)
def shapes_slowly(all_counts):
    """By each of the counts the shape of the prices at which no others cost less, where there is one."""
    # What costs no less in any number than others is nowhere alone least and bounds no shape.
    few = [counts for counts in all_counts
           if not any(other != counts and all(a <= b for a, b in zip(other, counts)) for other in all_counts)]
    shapes = {}
    for counts in few:
        sides = [tuple(b - a for a, b in zip(counts, other)) for other in few if other != counts]
        shapes[counts] = shape_slowly(sides)
    return {counts: shape for counts, shape in shapes.items() if shape != ()}


def parted_slowly(one, other):
    """The parts, of all scripts counted off."""
    firsts = {}
    for script in scripts_between(one, other):
        firsts.setdefault(counts_of(script), script)
    shapes = shapes_slowly(frozenset(firsts))
    return tuple(sorted((counts, firsts[counts], shape) for counts, shape in shapes.items()))


def edges(shape):
    return list(zip(shape, shape[1:] + shape[:1]))


def on_the_border_of_all(a, b):
    """Whether both corners have 0 at the same place."""
    return any(x == 0 and y == 0 for x, y in zip(a, b))


def price_between(dice, corners):
    """Some price between the corners, each of them taken."""
    many = [dice.randint(1, 9) for _ in corners]
    return tuple(sum(n * corner[at] for n, corner in zip(many, corners)) for at in range(3))


class Told(unittest.TestCase):
    def check(self, one, other, *parts):
        told = tuple((counts, read_script(text), shape) for counts, text, shape in parts)
        self.assertEqual(parted(one, other), told)

    def test_words_without_letters(self):
        self.check("", "", ((0, 0, 0), "none", WHOLE))
        self.check("", "a", ((0, 1, 1), "+a", WHOLE))
        self.check("a", "", ((0, 1, 1), "-a", WHOLE))
        self.check("", "abcdef", ((0, 6, 1), "+a +b +c +d +e +f", WHOLE))
        self.check("abcdef", "", ((0, 6, 1), "-a -b -c -d -e -f", WHOLE))

    def test_twice_the_same_word(self):
        for word in ("a", "ab", "aaa", "abab", "abcdef", "aaaaaa"):
            self.check(word, word, ((0, 0, 0), " ".join(word), WHOLE))

    def test_words_without_a_letter_in_common(self):
        self.check("a", "b", ((0, 2, 2), "-a +b", ((1, 0, 0), (2, 1, 0), (2, 0, 1))),
                   ((1, 0, 0), "a>b", ((0, 0, 1), (2, 0, 1), (2, 1, 0), (0, 1, 0))))
        self.check("ab", "cd", ((0, 4, 2), "-a -b +c +d", ((1, 0, 0), (2, 1, 0), (1, 0, 1))),
                   ((2, 0, 0), "a>c b>d", ((0, 0, 1), (1, 0, 1), (2, 1, 0), (0, 1, 0))))
        self.check("aa", "b", ((0, 3, 2), "-a -a +b", ((1, 0, 0), (2, 1, 0), (1, 0, 1))),
                   ((1, 1, 1), "a>b -a", ((0, 0, 1), (1, 0, 1), (2, 1, 0), (0, 1, 0))))

    def test_ordinary_words(self):
        self.check("abcdef", "fedcba",
                   ((0, 10, 2), "-a -b -c -d -e f +e +d +c +b +a", ((1, 0, 0), (2, 1, 0), (2, 1, 1), (1, 0, 3))),
                   ((4, 2, 2), "a>f b>e -c d e>c f>b +a", ((1, 1, 0), (2, 1, 1), (2, 1, 0))),
                   ((6, 0, 0), "a>f b>e c>d d>c e>b f>a", ((0, 0, 1), (1, 0, 3), (2, 1, 1), (1, 1, 0), (0, 1, 0))))
        self.check("ab", "b", ((0, 1, 1), "-a b", WHOLE))
        self.check("aa", "a", ((0, 1, 1), "a -a", WHOLE))
        self.check("abc", "bca", ((0, 2, 2), "-a b c +a", ((1, 0, 0), (2, 3, 0), (2, 0, 3))),
                   ((3, 0, 0), "a>b b>c c>a", ((0, 0, 1), (2, 0, 3), (2, 3, 0), (0, 1, 0))))

    def test_the_counts_of_seven_parts(self):
        told = tuple(counts for counts, script, shape in parted("cbbabc", "acdbda"))
        self.assertEqual(told, ((0, 6, 5), (0, 8, 3), (0, 12, 2), (1, 4, 3), (2, 4, 2), (3, 2, 2), (6, 0, 0)))


class CountedOff(unittest.TestCase):
    def check(self, one, other):
        self.assertEqual(parted(one, other), parted_slowly(one, other), (one, other))

    def test_every_pair_of_short_words(self):
        for one in words_over("ab", 3):
            for other in words_over("ab", 3):
                self.check(one, other)

    def test_words_of_four_and_five_letters(self):
        dice = random.Random(222)
        for _ in range(120):
            letters = dice.choice(("ab", "abc", "abcd"))
            self.check(some_word(dice, letters, 5), some_word(dice, letters, 4))

    def test_words_of_six_letters(self):
        for one, other in SIXES:
            self.check(one, other)


class TheParts(unittest.TestCase):
    """What [22] and [5] say of the parts of any two words."""

    def test_their_scripts_and_shapes(self):
        for one, other in PAIRS:
            parting = parted(one, other)
            self.assertEqual(list(parting), sorted(parting))
            for counts, script, shape in parting:
                self.assertEqual(ends_of(script), (one, other))
                self.assertEqual(counts_of(script), counts)
                self.assertIs(is_shape(shape), True)

    def test_the_least_cost_at_any_price_is_that_of_the_part_whose_shape_has_it(self):
        dice = random.Random(223)
        for one, other in PAIRS:
            parting = parted(one, other)
            for price in [some_price(dice) for _ in range(6)] + prices_up_to(2) + [(0, 0, 1), (1, 0, 0), (GREAT, 1, 0)]:
                least = least_cost(one, other, price)
                for counts, script, shape in parting:
                    cost = cost_of(price, counts)
                    self.assertEqual(cost == least, lies_in(shape, price) >= 0, (one, other, price, counts))
                    self.assertGreaterEqual(cost, least)

    def test_the_shapes_cover_all_prices_and_meet_at_their_borders_alone(self):
        dice = random.Random(224)
        for one, other in PAIRS:
            shapes = [shape for counts, script, shape in parted(one, other)]
            asked = [some_price(dice) for _ in range(6)] + prices_up_to(2)
            asked += [price_between(dice, shape) for shape in shapes]
            for price in asked:
                found = [lies_in(shape, price) for shape in shapes]
                self.assertIn(found.count(1), (0, 1))
                self.assertNotEqual(found, [-1] * len(shapes))
                if 1 in found:
                    self.assertEqual(found.count(-1), len(shapes) - 1)

    def test_within_a_shape_its_counts_are_alone_least(self):
        dice = random.Random(225)
        for one, other in SIXES + tuple(PAIRS[:20]):
            all_counts = {counts_of(script) for script in scripts_between(one, other)}
            for counts, script, shape in parted(one, other):
                price = price_between(dice, shape)
                least = cost_of(price, counts)
                self.assertTrue(all(cost_of(price, more) > least for more in all_counts if more != counts))
                for corner in shape:
                    self.assertTrue(all(cost_of(corner, more) >= cost_of(corner, counts) for more in all_counts))

    def test_each_edge_is_one_of_another_shape_or_of_the_border_of_all(self):
        for one, other in PAIRS:
            told = [edge for counts, script, shape in parted(one, other) for edge in edges(shape)]
            self.assertEqual(len(set(told)), len(told))
            for a, b in told:
                self.assertNotEqual((b, a) in told, on_the_border_of_all(a, b), (one, other, a, b))

    def test_the_script_is_the_first_that_has_the_counts(self):
        for one, other in SIXES + tuple(PAIRS[:40]):
            scripts = scripts_between(one, other)
            for counts, script, shape in parted(one, other):
                self.assertEqual(next(first for first in scripts if counts_of(first) == counts), script)

    def test_of_the_two_words_exchanged_backwards_or_renamed(self):
        dice = random.Random(226)
        for one, other in PAIRS:
            told = [(counts, shape) for counts, script, shape in parted(one, other)]
            names = str.maketrans(SMALL, "".join(dice.sample(SMALL, 26)))
            for u, v in ((other, one), (one[::-1], other[::-1]), (one.translate(names), other.translate(names))):
                self.assertEqual([(counts, shape) for counts, script, shape in parted(u, v)], told, (one, other))

    def test_they_are_made_of_plain_things_alone(self):
        for one, other in PAIRS:
            parting = parted(one, other)
            self.assertTrue(is_plain(parting))
            for counts, script, shape in parting:
                self.assertEqual({type(number) for three in shape + (counts,) for number in three}, {int})

    def test_they_hang_on_what_is_handed_in_alone(self):
        before = [parted(*pair) for pair in PAIRS]
        after = [parted(*pair) for pair in PAIRS[::-1]]
        self.assertEqual(before, after[::-1])

    def test_words_of_six_letters_are_parted_within_some_seconds(self):
        for one, other in SIXES:
            begun = time.perf_counter()
            parted(one, other)
            self.assertLess(time.perf_counter() - begun, 3)


class ThePartOfAPrice(unittest.TestCase):
    def test_told(self):
        parting = parted("a", "b")
        for price, number in (((1, 0, 0), 0), ((5, 1, 1), 0), ((4, 1, 1), 0), ((3, 1, 1), 1), ((2, 1, 0), 0),
                              ((0, 1, 0), 1), ((0, 0, 1), 1), ((3, 1, 0), 0), ((3, 2, 0), 1)):
            self.assertEqual(part_at(parting, price), number, price)
        for price in prices_up_to(3):
            self.assertEqual(part_at(parted("", "abc"), price), 0)

    def test_a_price_in_more_than_one_shape_is_of_the_first(self):
        met = 0
        for one, other in SIXES:
            parting = parted(one, other)
            shapes = [shape for counts, script, shape in parting]
            for shape in shapes:
                for a, b in edges(shape):
                    for price in (a, tuple(2 * x + y for x, y in zip(a, b))):
                        having = [at for at, held in enumerate(shapes) if lies_in(held, price) >= 0]
                        self.assertEqual(part_at(parting, price), having[0])
                        met += len(having) > 1
        self.assertGreater(met, 50)

    def test_any_price_in_lowest_terms_or_not(self):
        dice = random.Random(231)
        for one, other in PAIRS:
            parting = parted(one, other)
            for price in [some_price(dice) for _ in range(4)] + prices_up_to(2)[::2]:
                number = part_at(parting, price)
                self.assertIs(type(number), int)
                costs = [cost_of(price, counts) for counts, script, shape in parting]
                self.assertEqual(number, costs.index(min(costs)))
                self.assertEqual(part_at(parting, tuple(6 * x for x in price)), number)


class PartingsThatHold(unittest.TestCase):
    def test_what_parted_tells_holds(self):
        for one, other in PAIRS:
            self.assertIs(parting_holds(one, other, parted(one, other)), True)

    def test_one_thing_amiss_at_any_place(self):
        for one, other, every in (("", "", 1), ("a", "b", 1), ("ab", "b", 1), ("aa", "b", 1), ("abcdef", "fedcba", 11)):
            parting = parted(one, other)
            for thing in with_one_amiss(parting)[::every]:
                self.assertFalse(is_same(thing, parting))
                self.assertIs(parting_holds(one, other, thing), False, (one, other, thing))

    def test_a_truth_stands_for_no_number(self):
        at_first = (((False, 0, 0), (), WHOLE),)
        self.assertIs(parting_holds("", "", at_first), False)
        self.assertIs(parting_holds("", "", (((0, 0, 0), (), ((0, 0, True), (1, 0, 0), (0, 1, 0))),)), False)
        self.assertIs(parting_holds("", "", (((0, 0, 0), (), WHOLE),)), True)
        self.assertIs(parting_holds("a", "", (((0, True, 1), (("out", "a"),), WHOLE),)), False)
        self.assertIs(parting_holds("a", "", (((0, 1, True), (("out", "a"),), WHOLE),)), False)

    def test_the_parting_of_other_words(self):
        for one, other in PAIRS[100:]:
            parting = parted(one, other)
            for u, v in ((other, one), (one[::-1], other[::-1]), (one[1:], other), (one, "a" + other[1:])):
                told = parted(u, v)
                self.assertIs(parting_holds(one, other, told), told == parting)

    def test_another_script_with_the_same_counts(self):
        told = (((0, 1, 1), read_script("-a a"), WHOLE),)
        self.assertIs(parting_holds("aa", "a", told), False)
        self.assertIs(parting_holds("aa", "a", (((0, 1, 1), read_script("a -a"), WHOLE),)), True)

    def test_things_of_any_kind(self):
        deep = ()
        for _ in range(5000):
            deep = (deep,)
        for thing in JUNK + (WHOLE, (WHOLE,), "none", deep, (deep,), ((deep, deep, deep),)):
            for one, other in (("", ""), ("a", "b"), ("abcdef", "fedcba")):
                self.assertIs(parting_holds(one, other, thing), False)


class TooLong(unittest.TestCase):
    def check(self, letters, one, other):
        check_refused(self, "TooLong", letters, parted, one, other)
        for thing in (None, (), (((0, 0, 0), (), WHOLE),), True):
            check_refused(self, "TooLong", letters, parting_holds, one, other, thing)

    def test_words_of_seven_to_twelve_letters(self):
        for many in range(7, 13):
            for word in ("a" * many, SMALL[:many]):
                for short in ("", "a", "abcdef"):
                    self.check(many, word, short)
                    self.check(many, short, word)
                self.check(many, word, word)
                self.check(many, word, "ab" * 6)
                self.check(12, "ab" * 6, word)

    def test_the_first_of_the_two_that_is_too_long_is_told(self):
        self.check(7, "a" * 7, "b" * 9)
        self.check(9, "a" * 9, "b" * 7)

    def test_words_of_six_letters_are_not_refused(self):
        self.assertEqual(len(parted("a" * 6, "a" * 6)), 1)
        self.assertIs(parting_holds("a" * 6, "b" * 6, parted("a" * 6, "b" * 6)), True)

    def test_a_refusal_changes_no_later_answer(self):
        before = parted("abc", "bca")
        self.check(7, "a" * 7, "bca")
        self.assertEqual(parted("abc", "bca"), before)


class TheHelpOfTheTests(unittest.TestCase):
    def test_the_slow_shape(self):
        self.assertEqual(shape_slowly([]), WHOLE)
        self.assertEqual(shape_slowly([(1, -2, -2)]), ((1, 0, 0), (2, 1, 0), (2, 0, 1)))
        self.assertEqual(shape_slowly([(0, 0, 0)]), ())
        self.assertEqual(shape_slowly([(-1, 0, 0)]), ())
        self.assertEqual(worth((1, 2, 3), (4, 5, 6)), 32)


if __name__ == "__main__":
    unittest.main()
