"""Promises [16] and [17], and [5] as far as it speaks of them: numbers for the places of two words."""

import functools
import random
import time
import unittest

from helper import JUNK, SMALL, TWELVES, is_plain, moves_of, prices_up_to, script_from, scripts_between, some_cases
from helper import some_price, some_word, with_one_amiss, words_over
from pricebend.numbers import numbers_at, numbers_hold
from pricebend.prices import cost_of
from pricebend.scripts import counts_of, ends_of
from pricebend.table import first_script, least_cost
from pricebend.texts import read_script

GREAT = 10 ** 29
PRICES = [(1, 0, 0), (0, 1, 0), (0, 0, 1), (1, 1, 1), (2, 2, 2), (3, 1, 2), (5, 2, 1), (1, 1, 0), (9, 3, 6),
          (GREAT, 7, 0), (3 * GREAT, GREAT + 1, 2 * GREAT)]
CASES = some_cases(150, 161, figures=30)
SHORT = some_cases(60, 162, most=4, figures=30)


def comes(i, j, k):
    """Whether steps come to the place, as [16] lists them."""
    return (i, j, k) == (0, 0, 0) or (k == 0 and i >= 1 and j >= 1) or (k == 1 and i >= 1) or (k == 2 and j >= 1)


def all_places(one, other):
    return [(i, j, k) for i in range(len(one) + 1) for j in range(len(other) + 1) for k in range(3)]


def counted_off(one, other, price):
    """The table, of all scripts between the beginnings of both words, by the move of their last step."""
    table = []
    for i in range(len(one) + 1):
        row = []
        for j in range(len(other) + 1):
            costs = {}
            for script in scripts_between(one[:i], other[:j]):
                costs.setdefault((moves_of(script) or (0,))[-1], []).append(cost_of(price, counts_of(script)))
            row.append(tuple(min(costs[k]) if k in costs else None for k in range(3)))
        table.append(tuple(row))
    return tuple(table)


def steps_into(one, other, price, i, j, k):
    """A tuple (price, place ahead) of each step that leads to this place."""
    o, s, t = price
    if k == 0:
        if i == 0 or j == 0:
            return []
        cost = o * (one[i - 1] != other[j - 1])
        return [(cost, (i - 1, j - 1, last)) for last in range(3) if comes(i - 1, j - 1, last)]
    i, j = (i - 1, j) if k == 1 else (i, j - 1)
    return [(s + t * (last != k), (i, j, last)) for last in range(3) if i >= 0 and j >= 0 and comes(i, j, last)]


def table_slowly(one, other, price):
    @functools.lru_cache(None)
    def least(i, j, k):
        into = steps_into(one, other, price, i, j, k)
        if (i, j, k) == (0, 0, 0):
            return 0
        return min((least(*ahead) + cost for cost, ahead in into), default=None)

    many = range(len(other) + 1)
    return tuple(tuple(tuple(least(i, j, k) for k in range(3)) for j in many) for i in range(len(one) + 1))


def to_the_end(one, other, price):
    """A table that holds beside that of numbers_at: the least cost less what is still to be paid from the place on."""
    ahead = numbers_at(one[::-1], other[::-1], price)
    least = least_cost(one, other, price)
    table = []
    for i in range(len(one) + 1):
        row = []
        for j in range(len(other) + 1):
            three = ahead[len(one) - i][len(other) - j]
            # Where a stretch goes on, its price was paid ahead of the place.
            left = [min(number - price[2] * (k > 0 and k == move) for move, number in enumerate(three)
                        if number is not None) for k in range(3)]
            row.append(tuple(least - left[k] if comes(i, j, k) else None for k in range(3)))
        table.append(tuple(row))
    return tuple(table)


def least_of_both(one, other):
    """The less number of both tables, place by place."""
    def less(a, b):
        return None if a is None else min(a, b)

    return tuple(tuple(tuple(map(less, *threes)) for threes in zip(*rows)) for rows in zip(one, other))


def has_form(one, other, table):
    if type(table) is not tuple or len(table) != len(one) + 1:
        return False
    for row in table:
        if type(row) is not tuple or len(row) != len(other) + 1:
            return False
        for three in row:
            if type(three) is not tuple or len(three) != 3:
                return False
    kinds = {(i, j, k): type(table[i][j][k]) for i, j, k in all_places(one, other)}
    return all(kind is (int if comes(*place) else type(None)) for place, kind in kinds.items())


def holds_slowly(one, other, price, script, table):
    """What [17] asks, asked of each place by the steps that lead to it; the script is a script."""
    if not has_form(one, other, table) or table[0][0][0] != 0 or ends_of(script) != (one, other):
        return False
    for i, j, k in all_places(one, other):
        for cost, (a, b, c) in steps_into(one, other, price, i, j, k):
            if table[i][j][k] > table[a][b][c] + cost:
                return False
    return not any(number is not None and cost_of(price, counts_of(script)) > number for number in table[-1][-1])


def with_number(table, place, number):
    i, j, k = place
    rows = [[list(three) for three in row] for row in table]
    rows[i][j][k] = number
    return tuple(tuple(tuple(three) for three in row) for row in rows)


class TheTable(unittest.TestCase):
    def test_ordinary_words(self):
        self.assertEqual(numbers_at("ab", "b", (5, 1, 1)),
                         (((0, None, None), (None, None, 2)),
                          ((None, 2, None), (5, 4, 4)),
                          ((None, 3, None), (2, 5, 5))))
        self.assertEqual(numbers_at("b", "ab", (5, 1, 1)),
                         (((0, None, None), (None, None, 2), (None, None, 3)),
                          ((None, 2, None), (5, 4, 4), (2, 5, 5))))
        self.assertEqual(numbers_at("a", "b", (9, 1, 3)), (((0, None, None), (None, None, 4)),
                                                           ((None, 4, None), (9, 8, 8))))
        self.assertEqual(numbers_at("a", "a", (9, 1, 3)), (((0, None, None), (None, None, 4)),
                                                           ((None, 4, None), (0, 8, 8))))

    def test_words_without_letters(self):
        for o, s, t in PRICES:
            self.assertEqual(numbers_at("", "", (o, s, t)), (((0, None, None),),))
            ins = tuple((None, None, many * s + t) for many in range(1, 13))
            self.assertEqual(numbers_at("", "a" * 12, (o, s, t)), (((0, None, None),) + ins,))
            outs = tuple(((None, many * s + t, None),) for many in range(1, 13))
            self.assertEqual(numbers_at("a" * 12, "", (o, s, t)), (((0, None, None),),) + outs)

    def test_its_form(self):
        for one, other, price in CASES + [(u, v, PRICES[-1]) for u in TWELVES for v in TWELVES]:
            table = numbers_at(one, other, price)
            self.assertTrue(has_form(one, other, table), (one, other, price))
            self.assertTrue(is_plain(table))
            self.assertEqual(table[0][0], (0, None, None))

    def test_counted_off(self):
        for one in words_over("ab", 3):
            for other in words_over("ab", 2) + ["aab", "bab"]:
                for price in PRICES[:6]:
                    told = numbers_at(one, other, price)
                    self.assertEqual(told, counted_off(one, other, price), (one, other, price))
        for one, other, price in SHORT + some_cases(40, 163, most=4):
            self.assertEqual(numbers_at(one, other, price), counted_off(one, other, price), (one, other, price))

    def test_long_words(self):
        for one, other, price in CASES:
            self.assertEqual(numbers_at(one, other, price), table_slowly(one, other, price), (one, other, price))
        for one in TWELVES:
            for other in TWELVES:
                for price in PRICES[::3]:
                    self.assertEqual(numbers_at(one, other, price), table_slowly(one, other, price))

    def test_the_least_of_the_last_numbers_is_the_least_cost(self):
        for one, other, price in CASES:
            last = [number for number in numbers_at(one, other, price)[-1][-1] if number is not None]
            self.assertEqual(min(last), least_cost(one, other, price))

    def test_the_table_of_the_beginnings_is_its_beginning(self):
        for one, other, price in CASES:
            table = numbers_at(one, other, price)
            self.assertEqual(numbers_at(one[:5], other[:3], price), tuple(row[:4] for row in table[:6]))

    def test_a_price_in_lowest_terms_or_not(self):
        for one, other, price in CASES[:80]:
            for many in (2, 15, 10 ** 9):
                told = numbers_at(one, other, tuple(many * number for number in price))
                self.assertEqual(told, tuple(tuple(tuple(None if number is None else many * number
                                                         for number in three) for three in row)
                                             for row in numbers_at(one, other, price)))

    def test_numbers_of_forty_figures(self):
        price = (10 ** 40 - 1, 10 ** 39 + 7, 10 ** 40 - 3)
        for one, other in (("abc", "cab"), ("", "ab"), ("abcabc", "bca"), (TWELVES[4], TWELVES[8])):
            self.assertEqual(numbers_at(one, other, price), table_slowly(one, other, price))


class TablesThatHold(unittest.TestCase):
    def check(self, one, other, price, script, table):
        self.assertIs(numbers_hold(one, other, price, script, table), True, (one, other, price, script, table))

    def test_the_told_numbers_with_the_first_script(self):
        for one, other, price in CASES + SHORT:
            self.check(one, other, price, first_script(one, other, price), numbers_at(one, other, price))
        for one in TWELVES:
            for other in TWELVES:
                for price in PRICES[::4]:
                    self.check(one, other, price, first_script(one, other, price), numbers_at(one, other, price))

    def test_words_without_letters_and_twice_the_same_word(self):
        for price in PRICES:
            self.check("", "", price, (), (((0, None, None),),))
            for word in ("a", "abc", "aaaa"):
                for one, other in ((word, ""), ("", word), (word, word)):
                    self.check(one, other, price, first_script(one, other, price), numbers_at(one, other, price))

    def test_all_scripts_of_least_cost_and_no_others(self):
        for one, other, price in SHORT + [(u, v, p) for u in ("aab", "ab") for v in ("ba", "aba") for p in PRICES]:
            table = numbers_at(one, other, price)
            least = least_cost(one, other, price)
            for script in scripts_between(one, other):
                told = numbers_hold(one, other, price, script, table)
                self.assertIs(told, cost_of(price, counts_of(script)) == least, (one, other, price, script))

    def test_other_tables(self):
        below = 0
        for one, other, price in CASES + SHORT:
            script = first_script(one, other, price)
            forth, back = numbers_at(one, other, price), to_the_end(one, other, price)
            self.check(one, other, price, script, back)
            self.check(one, other, price, script, least_of_both(forth, back))
            below += any(number is not None and number < 0 for row in back for three in row for number in three)
        self.assertGreater(below, 50)

    def test_numbers_below_0(self):
        table = (((0, None, None), (None, None, -5)), ((None, -70, None), (3, 9, 0)))
        self.assertIs(numbers_hold("a", "b", (3, 9, 1), read_script("a>b"), table), False)
        table = (((0, None, None), (None, None, -5)), ((None, -7, None), (3, 5, 3)))
        self.assertIs(numbers_hold("a", "b", (3, 9, 1), read_script("a>b"), table), True)
        table = (((0, None, None), (None, None, -8)), ((None, -7, None), (3, 3, 3)))
        self.assertIs(numbers_hold("a", "b", (3, 9, 1), read_script("a>b"), table), False)
        table = (((0, None, None), (None, None, -7)), ((None, -7, None), (3, 3, 2)))
        self.assertIs(numbers_hold("a", "b", (3, 9, 1), read_script("a>b"), table), False)
        table = (((0, None, None), (None, None, -7)), ((None, -7, None), (3, 3, 3)))
        self.assertIs(numbers_hold("a", "b", (3, 9, 1), read_script("a>b"), table), True)

    def test_a_script_of_a_table_that_holds_is_of_least_cost(self):
        dice = random.Random(171)
        held = 0
        for _ in range(400):
            letters = dice.choice(("ab", "abc", SMALL))
            script = script_from(dice, some_word(dice, letters, 5), letters, 5)
            one, other = ends_of(script)
            price = some_price(dice, 30)
            cost = cost_of(price, counts_of(script))
            forth, back = numbers_at(one, other, price), to_the_end(one, other, price)
            end = (len(one), len(other), dice.choice((0, 1, 2)))
            raised = with_number(forth, end, cost) if comes(*end) else forth
            for table in (forth, back, least_of_both(forth, back), raised):
                told = numbers_hold(one, other, price, script, table)
                self.assertIs(told, holds_slowly(one, other, price, script, table))
                if told:
                    held += 1
                    self.assertEqual(cost, least_cost(one, other, price))
        self.assertGreater(held, 50)


class TablesThatDoNotHold(unittest.TestCase):
    def check(self, one, other, price, script, table):
        self.assertIs(numbers_hold(one, other, price, script, table), False, (one, other, price, script, table))

    def test_no_told_number_can_be_greater(self):
        for one, other, price in SHORT + CASES[:4]:
            table = numbers_at(one, other, price)
            script = first_script(one, other, price)
            for i, j, k in all_places(one, other):
                if comes(i, j, k):
                    for more in (1, GREAT):
                        self.check(one, other, price, script, with_number(table, (i, j, k), table[i][j][k] + more))

    def test_one_number_less(self):
        told = {True: 0, False: 0}
        for one, other, price in SHORT:
            script = first_script(one, other, price)
            for table in (numbers_at(one, other, price), to_the_end(one, other, price)):
                for i, j, k in all_places(one, other):
                    for less in (1, 2, GREAT) if comes(i, j, k) else ():
                        lower = with_number(table, (i, j, k), table[i][j][k] - less)
                        holds = holds_slowly(one, other, price, script, lower)
                        self.assertIs(numbers_hold(one, other, price, script, lower), holds, (one, other, lower))
                        told[holds] += 1
        self.assertGreater(min(told.values()), 100)

    def test_the_first_number_is_0(self):
        for one, other, price in SHORT:
            table = numbers_at(one, other, price)
            for many in (1, -1, GREAT, -GREAT):
                moved = tuple(tuple(tuple(None if number is None else number + many for number in three)
                                    for three in row) for row in table)
                self.check(one, other, price, first_script(one, other, price), moved)

    def test_at_another_price(self):
        self.check("ab", "b", (5, 1, 1), read_script("-a b"), numbers_at("ab", "b", (5, 1, 2)))
        self.check("ab", "b", (5, 1, 1), read_script("-a b"), numbers_at("ab", "b", (10, 2, 2)))
        self.check("ab", "b", (10, 2, 2), read_script("-a b"), numbers_at("ab", "b", (5, 1, 1)))

    def test_with_one_thing_amiss_at_any_place_of_the_table(self):
        held = 0
        for one, other, price in (("", "", (1, 1, 1)), ("a", "", (2, 1, 0)), ("", "b", (1, 0, 1)), ("a", "b", (1, 1, 0)),
                                  ("ab", "b", (5, 1, 1)), ("ab", "ba", (1, 1, 1)), ("abc", "ca", (0, 1, GREAT))):
            script = first_script(one, other, price)
            for table in (numbers_at(one, other, price), to_the_end(one, other, price)):
                self.assertIs(numbers_hold(one, other, price, script, table), True)
                for thing in with_one_amiss(table):
                    holds = holds_slowly(one, other, price, script, thing)
                    held += holds
                    self.assertIs(numbers_hold(one, other, price, script, thing), holds, (one, other, price, thing))
        self.assertGreater(held, 0)

    def test_a_truth_stands_for_no_number(self):
        table = (((0, None, None), (None, None, 1)), ((None, 1, None), (1, 2, 2)))
        self.assertIs(numbers_hold("a", "b", (1, 1, 0), read_script("a>b"), table), True)
        self.check("a", "b", (1, 1, 0), read_script("a>b"), with_number(table, (0, 0, 0), False))
        self.check("a", "b", (1, 1, 0), read_script("a>b"), with_number(table, (0, 1, 2), True))
        self.check("a", "b", (1, 1, 0), read_script("a>b"), with_number(table, (1, 0, 1), True))
        self.check("a", "b", (1, 1, 0), read_script("a>b"), with_number(table, (1, 1, 0), True))
        for place in ((0, 0, 1), (0, 0, 2), (0, 1, 0), (0, 1, 1), (1, 0, 0), (1, 0, 2)):
            for thing in (False, True, 0, 1, GREAT, "", ()):
                self.check("a", "b", (1, 1, 0), read_script("a>b"), with_number(table, place, thing))

    def test_the_table_of_other_words(self):
        for one, other, price in SHORT:
            script = first_script(one, other, price)
            for more in (numbers_at(one + "a", other, price), numbers_at(one, other + "a", price)):
                self.check(one, other, price, script, more)
            if len(one) != len(other):
                self.check(one, other, price, script, numbers_at(other, one, price))

    def test_things_that_are_no_table(self):
        for thing in JUNK + ("none", ("0",) * 3, ((None,) * 3,) * 3, (((),),), (((0, None),),), ((0, None, None),)):
            self.check("", "", (1, 1, 1), (), thing)
            self.check("ab", "b", (5, 1, 1), read_script("-a b"), thing)


class ScriptsThatDoNotFit(unittest.TestCase):
    def check(self, one, other, price, script):
        told = numbers_hold(one, other, price, script, numbers_at(one, other, price))
        self.assertIs(told, False, (one, other, price, script))

    def test_things_that_are_no_script(self):
        for thing in JUNK + ((("keep", "A"),), (("keep", True),), (True,), (("out", "a"), None), "-a b", ("-a", "b"),
                             (("out", "a"), ("keep", "b"), ()), (("in", "a"),) * 13):
            self.check("ab", "b", (5, 1, 1), thing)
            if thing != ():
                self.check("", "", (1, 1, 1), thing)

    def test_one_thing_amiss_at_any_place(self):
        for one, other, price in (("ab", "b", (5, 1, 1)), ("abc", "cab", (1, 1, 1)), ("", "ab", (3, 2, 1))):
            for thing in with_one_amiss(first_script(one, other, price)):
                self.check(one, other, price, thing)

    def test_scripts_that_lead_elsewhere(self):
        # At the price of an other alone every script here costs nothing.
        self.check("ab", "b", (1, 0, 0), read_script("-a -b"))
        self.check("ab", "b", (1, 0, 0), read_script("-a b -a"))
        self.check("ab", "b", (1, 0, 0), read_script("-a b +b"))
        self.check("ab", "b", (1, 0, 0), read_script("+a b"))
        self.check("ab", "b", (1, 0, 0), read_script("-b b"))
        self.check("ab", "b", (1, 0, 0), ())
        self.check("", "", (1, 0, 0), read_script("+a"))

    def test_scripts_that_cost_more(self):
        self.check("ab", "b", (5, 1, 1), read_script("a>b -b"))
        self.check("ab", "b", (5, 1, 1), read_script("-a -b +b"))
        self.check("ab", "b", (5 * GREAT, GREAT, 0), read_script("-a -b +b"))

    def test_numbers_raised_to_its_cost_do_not_help_it(self):
        script = read_script("-a -b +b")
        cost = cost_of((5, 1, 1), counts_of(script))
        table = numbers_at("ab", "b", (5, 1, 1))
        for k in range(3):
            table = with_number(table, (2, 1, k), cost)
        self.assertIs(numbers_hold("ab", "b", (5, 1, 1), script, table), False)


class WhatIsTold(unittest.TestCase):
    def test_it_hangs_on_what_is_handed_in_alone(self):
        def told(case):
            table = numbers_at(*case)
            script = first_script(*case)
            return table, numbers_hold(*case, script, table), numbers_hold(*case, script + (("in", "a"),), table)

        before = [told(case) for case in CASES[:40]]
        after = [told(case) for case in CASES[39::-1]]
        self.assertEqual(before, after[::-1])

    def test_words_of_twelve_letters_are_told_within_a_second(self):
        for one in TWELVES:
            for other in TWELVES:
                price = (3 * GREAT, GREAT, 1)
                script = first_script(one, other, price)
                begun = time.perf_counter()
                table = numbers_at(one, other, price)
                self.assertIs(numbers_hold(one, other, price, script, table), True)
                self.assertLess(time.perf_counter() - begun, 1)

    def test_short_words_at_all_small_prices(self):
        for one, other in (("ab", "ba"), ("aab", "b"), ("a", "bc")):
            for price in prices_up_to(3):
                table = numbers_at(one, other, price)
                self.assertEqual(table, counted_off(one, other, price))
                self.assertIs(numbers_hold(one, other, price, first_script(one, other, price), table), True)


if __name__ == "__main__":
    unittest.main()
