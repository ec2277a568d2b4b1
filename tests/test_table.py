"""Promises [15] and [5], as far as it speaks of the least cost: least costs and first scripts at a price."""

import functools
import random
import time
import unittest

from helper import SMALL, TWELVES, is_plain, moves_of, prices_up_to, script_from, scripts_between, some_cases
from helper import some_pair, some_price, some_word, words_over
from pricebend.prices import cost_of
from pricebend.scripts import counts_of, ends_of, is_script, led_through, mirror_of, turned_back
from pricebend.table import first_script, least_cost
from pricebend.texts import read_script

ALONE = [(1, 0, 0), (0, 1, 0), (0, 0, 1), (7, 0, 0), (0, 7, 0), (0, 0, 7), (10 ** 39, 0, 0), (0, 0, 10 ** 39)]
SOME_PRICES = ALONE + prices_up_to(2) + [(3, 1, 2), (5, 2, 1), (4, 1, 4), (9, 2, 3), (1, 3, 9), (10 ** 39, 1, 10 ** 39)]


@functools.lru_cache(8)
def counted_off(one, other):
    return [(script, counts_of(script)) for script in scripts_between(one, other)]


def first_slowly(one, other, price):
    """The least cost and the first script that has it, of all scripts counted off."""
    costs = [(cost_of(price, counts), script) for script, counts in counted_off(one, other)]
    least = min(cost for cost, _ in costs)
    return least, min((script for cost, script in costs if cost == least), key=moves_of)


def best_slowly(one, other, price):
    """The least cost and the moves of the first script that has it, the least of such pairs at each place."""
    o, s, t = price

    @functools.lru_cache(None)
    def best(i, j, k):
        if i == len(one) and j == len(other):
            return 0, ()
        found = []
        for move, di, dj in ((0, 1, 1), (1, 1, 0), (2, 0, 1)):
            if i + di <= len(one) and j + dj <= len(other):
                here = s + (t if move != k else 0) if move else o * (one[i] != other[j])
                cost, moves = best(i + di, j + dj, move)
                found.append((here + cost, (move,) + moves))
        return min(found)

    return best(0, 0, 0)


CASES = some_cases(400, 15)


class Told(unittest.TestCase):
    def check(self, one, other, price, cost, text):
        with self.subTest(one=one, other=other, price=price):
            self.assertEqual(least_cost(one, other, price), cost)
            self.assertEqual(first_script(one, other, price), read_script(text))

    def test_ordinary_words(self):
        self.check("abd", "ace", (1, 1, 1), 2, "a b>c d>e")
        self.check("kitten", "sitting", (1, 1, 1), 4, "k>s i t t e>i n +g")
        self.check("kitten", "sitting", (1, 1, 0), 3, "k>s i t t e>i n +g")
        self.check("ab", "b", (5, 1, 1), 2, "-a b")
        self.check("b", "ab", (5, 1, 1), 2, "+a b")
        self.check("ab", "a", (0, 1, 1), 2, "a -b")
        self.check("ab", "b", (0, 1, 1), 2, "a>b -b")
        self.check("abcd", "bcda", (1, 1, 1), 4, "a>b b>c c>d d>a")
        self.check("abcd", "bcda", (2, 1, 1), 4, "-a b c d +a")

    def test_an_out_and_an_in_side_by_side_are_two_stretches(self):
        self.check("a", "b", (9, 1, 3), 8, "-a +b")
        self.check("a", "b", (8, 1, 3), 8, "a>b")
        self.check("a", "b", (7, 1, 3), 7, "a>b")
        self.check("ab", "cd", (9, 1, 3), 10, "-a -b +c +d")
        self.check("ab", "cd", (5, 1, 3), 10, "a>c b>d")

    def test_one_stretch_is_cheaper_than_two(self):
        self.check("abab", "ab", (9, 1, 1), 3, "a b -a -b")
        self.check("xabyab", "ab", (9, 1, 1), 5, "-x -a -b -y a b")
        self.check("xabyab", "ab", (9, 1, 0), 4, "-x a b -y -a -b")
        self.check("ab", "xabyab", (9, 1, 1), 5, "+x +a +b +y a b")
        self.check("ab", "xabyab", (9, 1, 0), 4, "+x a b +y +a +b")

    def test_words_without_letters(self):
        for price in SOME_PRICES:
            self.check("", "", price, 0, "none")
            self.check("", "abc", price, 3 * price[1] + price[2], "+a +b +c")
            self.check("abc", "", price, 3 * price[1] + price[2], "-a -b -c")
            self.check("", "a" * 12, price, 12 * price[1] + price[2], " ".join(["+a"] * 12))
            self.check("a" * 12, "", price, 12 * price[1] + price[2], " ".join(["-a"] * 12))

    def test_twice_the_same_word(self):
        for price in SOME_PRICES:
            for word in ("a", "ab", "aaa", "abab", "none") + TWELVES:
                self.check(word, word, price, 0, " ".join(word))

    def test_words_without_a_letter_in_common(self):
        self.check("aaa", "bbb", (1, 1, 1), 3, "a>b a>b a>b")
        self.check("aaa", "bb", (1, 1, 1), 4, "a>b a>b -a")
        self.check("aaa", "bb", (9, 1, 1), 7, "-a -a -a +b +b")
        self.check("aa", "bbb", (9, 1, 1), 7, "-a -a +b +b +b")
        self.check("aa", "bbb", (0, 1, 1), 2, "a>b a>b +b")
        self.check(SMALL[:12], SMALL[12:24], (10, 1, 2), 28, " ".join(["-" + a for a in SMALL[:12]] +
                                                                      ["+" + b for b in SMALL[12:24]]))

    def test_one_number_alone_above_0(self):
        for many in (1, 7, 10 ** 39):
            self.check("ab", "cd", (many, 0, 0), 0, "-a -b +c +d")
            self.check("ab", "bc", (many, 0, 0), 0, "-a b +c")
            self.check("ab", "cd", (0, many, 0), 0, "a>c b>d")
            self.check("abc", "d", (0, many, 0), 2 * many, "a>d -b -c")
            self.check("ab", "cd", (0, 0, many), 0, "a>c b>d")
            self.check("abc", "d", (0, 0, many), many, "a>d -b -c")
            self.check("abc", "c", (many, 0, 0), 0, "-a -b c")

    def test_of_scripts_of_like_cost_the_first_in_order(self):
        self.check("aa", "a", (1, 1, 1), 2, "a -a")
        self.check("a", "aa", (1, 1, 1), 2, "a +a")
        self.check("aaa", "a", (1, 1, 0), 2, "a -a -a")
        self.check("a", "b", (2, 1, 0), 2, "a>b")
        self.check("a", "b", (3, 1, 0), 2, "-a +b")
        self.check("ab", "ba", (1, 1, 0), 2, "a>b b>a")
        self.check("ab", "ba", (2, 1, 0), 2, "-a b +a")
        self.check("ab", "ba", (1, 0, 0), 0, "-a b +a")
        self.check("abc", "b", (1, 0, 0), 0, "-a b -c")
        self.check("abc", "b", (0, 1, 0), 2, "a>b -b -c")

    def test_a_price_in_lowest_terms_or_not(self):
        for one, other, price in CASES[:150]:
            for many in (2, 12, 10 ** 20):
                more = tuple(many * number for number in price)
                self.assertEqual(least_cost(one, other, more), many * least_cost(one, other, price))
                self.assertEqual(first_script(one, other, more), first_script(one, other, price))


class CountedOff(unittest.TestCase):
    """Against all scripts counted off; without subTest, since there are very many."""

    def check(self, one, other, price):
        told = least_cost(one, other, price), first_script(one, other, price)
        self.assertEqual(told, first_slowly(one, other, price), (one, other, price))

    def test_the_scripts_counted_off_are_in_order_and_all_there_are(self):
        for one, other, many in (("", "", 1), ("a", "b", 3), ("ab", "ab", 13), ("abc", "bca", 63), ("abcd", "", 1)):
            scripts = scripts_between(one, other)
            moves = [moves_of(script) for script in scripts]
            self.assertEqual((len(scripts), len(set(scripts))), (many, many))
            self.assertEqual(moves, sorted(set(moves)))
            for script in scripts:
                self.assertEqual(ends_of(script), (one, other))

    def test_every_pair_of_short_words(self):
        for one in words_over("ab", 3):
            for other in words_over("ab", 3):
                for price in SOME_PRICES:
                    self.check(one, other, price)

    def test_short_words_of_more_letters(self):
        dice = random.Random(16)
        for _ in range(300):
            self.check(some_word(dice, "abcd", 5), some_word(dice, "abcd", 4), some_price(dice))
            self.check(some_word(dice, "ab", 4), some_word(dice, "ab", 5), dice.choice(prices_up_to(3)))

    def test_words_of_six_letters(self):
        for one, other in (("aababb", "babaab"), ("abcabc", "bcabca"), ("abcdef", "fedcba")):
            for price in ((1, 1, 1), (3, 1, 1), (1, 0, 0), (0, 0, 1), (2, 1, 0), (5, 1, 3)):
                self.check(one, other, price)


class LongWords(unittest.TestCase):
    def check(self, one, other, price):
        script = first_script(one, other, price)
        cost, moves = best_slowly(one, other, price)
        self.assertEqual(least_cost(one, other, price), cost, (one, other, price))
        self.assertEqual(moves_of(script), moves, (one, other, price))
        self.assertEqual(ends_of(script), (one, other))

    def test_many(self):
        for case in CASES:
            self.check(*case)

    def test_words_of_twelve_letters(self):
        for one in TWELVES:
            for other in TWELVES:
                for price in SOME_PRICES[::3]:
                    self.check(one, other, price)

    def test_each_is_found_within_a_second(self):
        for one in TWELVES:
            for other in TWELVES:
                for price in ((1, 1, 1), (1, 0, 0), (0, 0, 1), (10 ** 39, 10 ** 38, 1)):
                    for asked in (least_cost, first_script):
                        begun = time.perf_counter()
                        asked(one, other, price)
                        self.assertLess(time.perf_counter() - begun, 1)


class ThePromise(unittest.TestCase):
    def test_the_least_cost_is_met_by_the_told_script(self):
        for one, other, price in CASES:
            script = first_script(one, other, price)
            self.assertIs(is_script(script), True)
            self.assertEqual(ends_of(script), (one, other))
            self.assertEqual(cost_of(price, counts_of(script)), least_cost(one, other, price))

    def test_no_script_at_hand_is_cheaper(self):
        dice = random.Random(17)
        for _ in range(1500):
            letters = dice.choice(("ab", "abc"))
            script = script_from(dice, some_word(dice, letters), letters)
            price = some_price(dice)
            self.assertLessEqual(least_cost(*ends_of(script), price), cost_of(price, counts_of(script)))

    def test_it_bends_down(self):
        dice = random.Random(18)
        bent = 0
        for one, other, price in CASES:
            for more in (some_price(dice), dice.choice(SOME_PRICES), price):
                both = tuple(a + b for a, b in zip(price, more))
                apart = least_cost(one, other, price) + least_cost(one, other, more)
                self.assertGreaterEqual(least_cost(one, other, both), apart)
                bent += least_cost(one, other, both) > apart
        self.assertGreater(bent, 50)

    def test_by_a_middle_word_it_is_never_less(self):
        dice = random.Random(19)
        for one, other, price in CASES:
            for middle in (some_pair(dice)[0], one[:6] + other[6:], ""):
                by_it = least_cost(one, middle, price) + least_cost(middle, other, price)
                self.assertLessEqual(least_cost(one, other, price), by_it)
                script = led_through(first_script(one, middle, price), first_script(middle, other, price))
                self.assertLessEqual(least_cost(one, other, price), cost_of(price, counts_of(script)))

    def test_of_the_two_words_exchanged_it_is_the_same(self):
        for one, other, price in CASES:
            self.assertEqual(least_cost(other, one, price), least_cost(one, other, price))
            script = turned_back(first_script(other, one, price))
            self.assertEqual(ends_of(script), (one, other))
            self.assertEqual(cost_of(price, counts_of(script)), least_cost(one, other, price))

    def test_of_both_told_backwards_it_is_the_same(self):
        for one, other, price in CASES:
            self.assertEqual(least_cost(one[::-1], other[::-1], price), least_cost(one, other, price))
            script = mirror_of(first_script(one[::-1], other[::-1], price))
            self.assertEqual(ends_of(script), (one, other))
            self.assertEqual(cost_of(price, counts_of(script)), least_cost(one, other, price))

    def test_of_both_with_their_letters_renamed_it_is_the_same(self):
        dice = random.Random(20)
        for one, other, price in CASES:
            names = str.maketrans(SMALL, "".join(dice.sample(SMALL, 26)))
            renamed = one.translate(names), other.translate(names)
            self.assertEqual(least_cost(*renamed, price), least_cost(one, other, price))
            self.assertEqual(moves_of(first_script(*renamed, price)), moves_of(first_script(one, other, price)))


class WhatIsTold(unittest.TestCase):
    def test_it_is_made_of_plain_things_alone(self):
        for one, other, price in CASES:
            self.assertIs(type(least_cost(one, other, price)), int)
            self.assertTrue(is_plain(first_script(one, other, price)))

    def test_it_hangs_on_what_is_handed_in_alone(self):
        before = [(least_cost(*case), first_script(*case)) for case in CASES[:60]]
        after = [(least_cost(*case), first_script(*case)) for case in CASES[59::-1]]
        self.assertEqual(before, after[::-1])


if __name__ == "__main__":
    unittest.main()
