"""Promise [25], and [5] as far as it speaks of them: scripts of least cost counted and told by number."""

import functools
import math
import random
import time
import unittest

from helper import SMALL, TWELVES, check_refused, is_plain, moves_of, prices_up_to, script_from, scripts_between
from helper import some_cases, some_price, words_over
from pricebend.counted import all_scripts, how_many, number_of, script_by
from pricebend.parting import parted
from pricebend.prices import cost_of
from pricebend.scripts import counts_of, ends_of, mirror_of, turned_back
from pricebend.table import first_script, least_cost
from pricebend.texts import read_script, script_text

GREAT = 10 ** 39
PRICES = [(1, 0, 0), (0, 1, 0), (0, 0, 1), (1, 1, 0), (1, 1, 1), (2, 1, 0), (0, 1, 1), (4, 2, 2), (GREAT, 0, 0),
          (2 * GREAT, GREAT, 0), (3, 1, 2)]
CASES = some_cases(200, 251)
SHORT = some_cases(100, 252, most=4)
# Every script between these costs nothing at the price of an other alone.
ALIKE = ("a" * 12, "a" * 12, (1, 0, 0))
ALL_OF_ALIKE = 251595969


def least_slowly(one, other, price):
    """All scripts of least cost, in order, of all scripts counted off."""
    costs = [(cost_of(price, counts_of(script)), script) for script in scripts_between(one, other)]
    least = min(cost for cost, _ in costs)
    return [script for cost, script in costs if cost == least]


def counted_slowly(one, other, price):
    """How many scripts have the least cost, by the least cost to each place and how many have it."""
    o, s, t = price

    @functools.lru_cache(None)
    def best(i, j, k):
        if (i, j) == (0, 0):
            return (0, 1) if k == 0 else (math.inf, 0)
        a, b = (i - 1, j - 1) if k == 0 else (i - 1, j) if k == 1 else (i, j - 1)
        if min(a, b) < 0:
            return math.inf, 0
        step = o * (one[a] != other[b]) if k == 0 else s
        found = [(cost + step + t * (k != 0 and k != last), many)
                 for last in range(3) for cost, many in (best(a, b, last),) if many]
        least = min((cost for cost, _ in found), default=math.inf)
        return least, sum(many for cost, many in found if cost == least)

    ends = [best(len(one), len(other), k) for k in range(3)]
    return sum(many for cost, many in ends if cost == min(ends)[0])


def some_numbers_below(dice, many):
    return sorted({0, 1, many // 2, many - 2, many - 1} | {dice.randrange(many) for _ in range(5)})


class Told(unittest.TestCase):
    def check(self, one, other, price, *texts):
        scripts = tuple(read_script(text) for text in texts)
        self.assertEqual(how_many(one, other, price), len(texts))
        self.assertEqual(all_scripts(one, other, price), scripts)
        for number, script in enumerate(scripts):
            self.assertEqual(script_by(one, other, price, number), script)
            self.assertEqual(number_of(one, other, price, script), number)
        for number in (-1, len(texts), len(texts) + 1):
            check_refused(self, "NoNumber", number, script_by, one, other, price, number)

    def test_one_script_alone(self):
        self.check("", "", (1, 1, 1), "none")
        self.check("", "", (0, 0, 1), "none")
        self.check("", "ab", (1, 0, 0), "+a +b")
        self.check("ab", "", (0, 1, 0), "-a -b")
        self.check("abc", "abc", (1, 1, 1), "a b c")
        self.check("a", "b", (1, 1, 1), "a>b")

    def test_more_scripts(self):
        self.check("aa", "a", (1, 1, 1), "a -a", "-a a")
        self.check("a", "aa", (1, 1, 1), "a +a", "+a a")
        self.check("a", "b", (4, 1, 1), "a>b", "-a +b", "+b -a")
        self.check("a", "b", (5, 1, 1), "-a +b", "+b -a")
        self.check("a", "a", (1, 0, 0), "a", "-a +a", "+a -a")
        self.check("aaa", "a", (1, 1, 1), "a -a -a", "-a -a a")
        self.check("aaa", "a", (1, 1, 0), "a -a -a", "-a a -a", "-a -a a")
        self.check("ab", "ba", (1, 1, 0), "a>b b>a", "-a b +a", "+b a -b")
        self.check("ab", "ba", (1, 1, 1), "a>b b>a")
        self.check("ab", "c", (0, 0, 1), "a>c -b", "-a b>c")

    def test_a_price_of_numbers_of_forty_figures(self):
        self.check("aa", "a", (GREAT, 10 * GREAT - 1, 7), "a -a", "-a a")
        self.check("a", "b", (4 * GREAT, GREAT, GREAT), "a>b", "-a +b", "+b -a")
        self.check("a", "b", (4 * GREAT, GREAT, GREAT + 1), "a>b")

    def test_very_many(self):
        self.assertEqual(how_many(*ALIKE), ALL_OF_ALIKE)
        self.assertEqual(how_many("a" * 12, "b" * 12, (1, 0, 0)), math.comb(24, 12))
        self.assertEqual(how_many("a" * 12, "b" * 5, (0, 1, 0)), math.comb(12, 5))
        self.assertEqual(how_many("a" * 12, "b" * 5, (0, 0, 1)), 6)


class CountedOff(unittest.TestCase):
    def check(self, one, other, price):
        scripts = least_slowly(one, other, price)
        self.assertEqual(how_many(one, other, price), len(scripts), (one, other, price))
        if len(scripts) <= 200:
            self.assertEqual(all_scripts(one, other, price), tuple(scripts), (one, other, price))
        else:
            check_refused(self, "TooMany", len(scripts), all_scripts, one, other, price)
        every = 1 + len(scripts) // 20
        for number in range(0, len(scripts), every):
            self.assertEqual(script_by(one, other, price, number), scripts[number])
            self.assertEqual(number_of(one, other, price, scripts[number]), number)

    def test_every_pair_of_short_words(self):
        for one in words_over("ab", 3):
            for other in words_over("ab", 2) + ["aba", "bbb"]:
                for price in PRICES:
                    self.check(one, other, price)

    def test_some_words_of_four_letters(self):
        for one, other, price in SHORT:
            self.check(one, other, price)
            self.check(one, other, tuple(min(number, 1) for number in price))

    def test_words_of_six_letters(self):
        for one, other in (("aababb", "babaab"), ("abcabc", "bcabca")):
            for price in PRICES[::2]:
                self.check(one, other, price)

    def test_all_small_prices(self):
        for price in prices_up_to(3):
            self.check("aab", "ba", price)
            self.check("ab", "cab", price)


class LongWords(unittest.TestCase):
    def check(self, one, other, price):
        many = how_many(one, other, price)
        self.assertEqual(many, counted_slowly(one, other, price), (one, other, price))
        before = ()
        for number in some_numbers_below(random.Random(many), many):
            if 0 <= number < many:
                script = script_by(one, other, price, number)
                self.assertEqual(ends_of(script), (one, other))
                self.assertEqual(cost_of(price, counts_of(script)), least_cost(one, other, price))
                self.assertEqual(number_of(one, other, price, script), number)
                self.assertTrue(number == 0 or before < moves_of(script))
                before = moves_of(script)
        self.assertEqual(script_by(one, other, price, 0), first_script(one, other, price))

    def test_many(self):
        for case in CASES:
            self.check(*case)

    def test_words_of_twelve_letters(self):
        for one in TWELVES:
            for other in TWELVES[::2]:
                for price in PRICES[::3]:
                    self.check(one, other, price)

    def test_the_last_of_very_many(self):
        last = script_by(*ALIKE, ALL_OF_ALIKE - 1)
        self.assertEqual(script_text(last), " ".join(["+a"] * 12 + ["-a"] * 12))
        self.assertEqual(number_of(*ALIKE, last), ALL_OF_ALIKE - 1)
        # All that begin with a keep, with an out, with an in: the numbers of scripts between the rests.
        behind = [how_many("a" * 11, "a" * many, (1, 0, 0)) for many in (11, 12)]
        self.assertEqual(behind[0] + 2 * behind[1], ALL_OF_ALIKE)
        self.assertEqual(script_by(*ALIKE, behind[0] - 1)[0], ("keep", "a"))
        self.assertEqual(script_by(*ALIKE, behind[0])[0], ("out", "a"))
        self.assertEqual(script_by(*ALIKE, sum(behind) - 1)[0], ("out", "a"))
        self.assertEqual(script_by(*ALIKE, sum(behind))[0], ("in", "a"))

    def test_the_script_of_each_number_follows_the_one_before(self):
        for one, other, price in CASES[:40] + [("abab", "baba", (1, 0, 0))]:
            many = min(how_many(one, other, price), 30)
            moves = [moves_of(script_by(one, other, price, number)) for number in range(many)]
            self.assertEqual(moves, sorted(set(moves)))

    def test_all_four_are_found_within_a_second(self):
        for one, other, price in [ALIKE, ("ab" * 6, "ba" * 6, (1, 1, 0)), (SMALL[:12], SMALL[12:24], (GREAT, 0, 0)),
                                  ("a" * 12, "a" * 11, (1, 1, 1))]:
            many = how_many(one, other, price)
            script = script_by(one, other, price, many // 2)
            for asked, handed in ((how_many, ()), (script_by, (many // 2,)), (number_of, (script,))):
                begun = time.perf_counter()
                asked(one, other, price, *handed)
                self.assertLess(time.perf_counter() - begun, 1)
            begun = time.perf_counter()
            if many > 200:
                check_refused(self, "TooMany", many, all_scripts, one, other, price)
            else:
                self.assertEqual(len(all_scripts(one, other, price)), many)
            self.assertLess(time.perf_counter() - begun, 1)


class Refusals(unittest.TestCase):
    def test_just_two_hundred_are_told(self):
        for one, other in (("aab", "aabbaa"), ("bbaabb", "bba"), ("baaaaba", "bbb")):
            told = all_scripts(one, other, (1, 0, 0))
            self.assertEqual(len(told), 200)
            self.assertEqual(told, tuple(least_slowly(one, other, (1, 0, 0))))

    def test_two_hundred_and_one_are_too_many(self):
        for one, other in (("cbcab", "bacc"), ("cabbcaa", "aac")):
            self.assertEqual(len(least_slowly(one, other, (1, 0, 0))), 201)
            check_refused(self, "TooMany", 201, all_scripts, one, other, (1, 0, 0))

    def test_very_many_are_too_many(self):
        check_refused(self, "TooMany", ALL_OF_ALIKE, all_scripts, *ALIKE)
        check_refused(self, "TooMany", 220, all_scripts, "a" * 12, "b" * 3, (0, 5, 0))

    def test_numbers_of_no_script(self):
        for one, other, price in CASES[:60] + SHORT[:20] + [ALIKE, ("", "", (1, 1, 1))]:
            many = how_many(one, other, price)
            for number in (-1, -many, many, many + 1, -GREAT, GREAT + many):
                check_refused(self, "NoNumber", number, script_by, one, other, price, number)

    def test_scripts_that_lead_elsewhere(self):
        # At these prices every script here costs nothing.
        for text in ("none", "-a", "-a +b -a", "a", "-b +a", "+b", "-a +b +b", "-b +b", "+a"):
            check_refused(self, "NotLeast", None, number_of, "a", "b", (1, 0, 0), read_script(text))
        check_refused(self, "NotLeast", None, number_of, "", "", (1, 0, 0), read_script("+a -a"))
        check_refused(self, "NotLeast", None, number_of, "ab", "b", (0, 1, 0), read_script("-a -b"))

    def test_scripts_that_are_not_of_least_cost(self):
        for one, other, price in SHORT + [("aab", "ba", price) for price in PRICES]:
            least = least_cost(one, other, price)
            for script in scripts_between(one, other):
                if cost_of(price, counts_of(script)) != least:
                    check_refused(self, "NotLeast", None, number_of, one, other, price, script)

    def test_any_script_is_told_its_number_or_refused(self):
        dice = random.Random(253)
        for _ in range(300):
            one, other, price = dice.choice(CASES)
            script = script_from(dice, one, "abc")
            if ends_of(script)[1] == other and cost_of(price, counts_of(script)) == least_cost(one, other, price):
                number = number_of(one, other, price, script)
                self.assertEqual(script_by(one, other, price, number), script)
            else:
                check_refused(self, "NotLeast", None, number_of, one, other, price, script)

    def test_a_refusal_changes_no_later_answer(self):
        before = all_scripts("ab", "ba", (1, 1, 0))
        check_refused(self, "NoNumber", 9, script_by, "ab", "ba", (1, 1, 0), 9)
        check_refused(self, "NotLeast", None, number_of, "ab", "ba", (1, 1, 0), ())
        check_refused(self, "TooMany", ALL_OF_ALIKE, all_scripts, *ALIKE)
        self.assertEqual(all_scripts("ab", "ba", (1, 1, 0)), before)


class ThePromise(unittest.TestCase):
    def test_within_a_shape_they_are_just_those_with_its_counts(self):
        dice = random.Random(254)
        pairs = [case[:2] for case in some_cases(40, 255, most=5)] + [("cbbabc", "acdbda"), ("abcdef", "fedcba")]
        for one, other in pairs:
            scripts = scripts_between(one, other)
            for counts, script, shape in parted(one, other):
                many = [dice.randint(1, 9) for _ in shape]
                price = tuple(sum(n * corner[at] for n, corner in zip(many, shape)) for at in range(3))
                having = tuple(each for each in scripts if counts_of(each) == counts)
                self.assertEqual(how_many(one, other, price), len(having))
                if len(having) <= 200:
                    self.assertEqual(all_scripts(one, other, price), having)
                self.assertEqual(script_by(one, other, price, 0), script)
                self.assertEqual(number_of(one, other, price, having[-1]), len(having) - 1)

    def test_of_the_words_exchanged_backwards_or_renamed_there_are_as_many(self):
        dice = random.Random(256)
        for one, other, price in CASES:
            many = how_many(one, other, price)
            names = str.maketrans(SMALL, "".join(dice.sample(SMALL, 26)))
            for u, v in ((other, one), (one[::-1], other[::-1]), (one.translate(names), other.translate(names))):
                self.assertEqual(how_many(u, v, price), many)
            script = script_by(one, other, price, many // 3)
            turned = turned_back(script)
            self.assertEqual(script_by(other, one, price, number_of(other, one, price, turned)), turned)
            mirror = mirror_of(script)
            number = number_of(one[::-1], other[::-1], price, mirror)
            self.assertEqual(script_by(one[::-1], other[::-1], price, number), mirror)

    def test_a_price_in_lowest_terms_or_not(self):
        for one, other, price in CASES[:80]:
            more = tuple(30 * number for number in price)
            many = how_many(one, other, price)
            self.assertEqual(how_many(one, other, more), many)
            self.assertEqual(script_by(one, other, more, many - 1), script_by(one, other, price, many - 1))

    def test_they_are_made_of_plain_things_alone(self):
        dice = random.Random(257)
        for one, other, price in CASES + [("aab", "ba", some_price(dice)) for _ in range(20)]:
            many = how_many(one, other, price)
            self.assertIs(type(many), int)
            script = script_by(one, other, price, many - 1)
            self.assertTrue(is_plain(script))
            self.assertIs(type(number_of(one, other, price, script)), int)
            if many <= 200:
                self.assertTrue(is_plain(all_scripts(one, other, price)))

    def test_they_hang_on_what_is_handed_in_alone(self):
        def told(case):
            return how_many(*case), script_by(*case, 0), number_of(*case, first_script(*case))

        before = [told(case) for case in CASES[:50]]
        after = [told(case) for case in CASES[49::-1]]
        self.assertEqual(before, after[::-1])


if __name__ == "__main__":
    unittest.main()
