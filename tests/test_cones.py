"""Promise [18]: the worth of sides, the side of two counts, the turn of three prices."""

import itertools
import random
import unittest

from helper import is_plain, prices_up_to, scripts_between, some_numbers, some_price, turned
from pricebend.cones import side_of, turn_of, worth_at
from pricebend.prices import cost_of
from pricebend.scripts import counts_of

SMALL_ONES = prices_up_to(2)


def some_threes(many, seed):
    """So many tuples of three whole numbers of either sign, of up to forty figures."""
    dice = random.Random(seed)
    numbers = some_numbers(60, seed)
    return [tuple(dice.choice(numbers) for _ in range(3)) for _ in range(many)]


def some_prices(many, seed):
    dice = random.Random(seed)
    return [some_price(dice) for _ in range(many)]


class Worth(unittest.TestCase):
    def test_told(self):
        self.assertEqual(worth_at((1, 2, 3), (4, 5, 6)), 32)
        self.assertEqual(worth_at((-1, 2, -3), (4, 5, 6)), -12)
        self.assertEqual(worth_at((2, -3, 1), (4, 3, 1)), 0)
        self.assertEqual(worth_at((0, 0, 0), (4, 5, 6)), 0)
        self.assertEqual(worth_at((7, 8, 9), (1, 0, 0)), 7)
        self.assertEqual(worth_at((7, 8, 9), (0, 1, 0)), 8)
        self.assertEqual(worth_at((7, 8, 9), (0, 0, 1)), 9)
        self.assertEqual(worth_at((10 ** 39, -1, 0), (10 ** 39, 10 ** 39, 5)), 10 ** 78 - 10 ** 39)

    def test_prices_and_sides_added(self):
        sides, prices = some_threes(60, 1), some_prices(60, 2)
        for side, more, price, other in zip(sides, sides[1:], prices, prices[1:]):
            both = tuple(a + b for a, b in zip(price, other))
            self.assertEqual(worth_at(side, both), worth_at(side, price) + worth_at(side, other))
            added = tuple(a + b for a, b in zip(side, more))
            self.assertEqual(worth_at(added, price), worth_at(side, price) + worth_at(more, price))
            self.assertEqual(worth_at(tuple(-a for a in side), price), -worth_at(side, price))

    def test_a_price_in_lowest_terms_or_not(self):
        for side, price in zip(some_threes(60, 3), some_prices(60, 4)):
            self.assertEqual(worth_at(side, tuple(12 * a for a in price)), 12 * worth_at(side, price))


class Sides(unittest.TestCase):
    def test_told(self):
        self.assertEqual(side_of((1, 2, 3), (4, 4, 4)), (3, 2, 1))
        self.assertEqual(side_of((4, 4, 4), (1, 2, 3)), (-3, -2, -1))
        self.assertEqual(side_of((0, 2, 2), (1, 0, 0)), (1, -2, -2))
        self.assertEqual(side_of((5, 6, 7), (5, 6, 7)), (0, 0, 0))
        self.assertEqual(side_of((-5, 0, 10 ** 39), (5, -6, -1)), (10, -6, -1 - 10 ** 39))

    def test_its_worth_is_how_much_more_the_other_counts_cost(self):
        for one, other, price in zip(some_threes(80, 5), some_threes(80, 6), some_prices(80, 7)):
            told = worth_at(side_of(one, other), price)
            self.assertEqual(told, cost_of(price, other) - cost_of(price, one))
            self.assertEqual(told >= 0, cost_of(price, one) <= cost_of(price, other))

    def test_of_the_counts_of_scripts(self):
        counts = sorted({counts_of(script) for script in scripts_between("aba", "bab")})
        for one in counts:
            for other in counts:
                for price in SMALL_ONES:
                    told = worth_at(side_of(one, other), price)
                    self.assertEqual(told >= 0, cost_of(price, one) <= cost_of(price, other))


class Turns(unittest.TestCase):
    def test_told(self):
        self.assertEqual(turn_of((1, 0, 0), (0, 1, 0), (0, 0, 1)), 1)
        self.assertEqual(turn_of((0, 0, 1), (1, 0, 0), (0, 1, 0)), 1)
        self.assertEqual(turn_of((0, 1, 0), (1, 0, 0), (0, 0, 1)), -1)
        self.assertEqual(turn_of((1, 2, 3), (4, 5, 6), (7, 8, 9)), 0)
        self.assertEqual(turn_of((1, 2, 3), (4, 5, 6), (7, 8, 10)), -3)
        self.assertEqual(turn_of((2, 0, 1), (1, 3, 0), (0, 1, 4)), 25)
        self.assertEqual(turn_of((10 ** 39, 0, 0), (0, 10 ** 39, 1), (5, 1, 10 ** 39)), 10 ** 117 - 10 ** 39)

    def test_of_all_small_prices(self):
        for a, b, c in itertools.product(SMALL_ONES, repeat=3):
            self.assertEqual(turn_of(a, b, c), turned(a, b, c))

    def test_of_prices_of_many_figures(self):
        prices = some_prices(200, 8)
        for a, b, c in zip(prices, prices[1:], prices[2:]):
            told = turn_of(a, b, c)
            self.assertEqual(told, turned(a, b, c))
            self.assertEqual((turn_of(b, c, a), turn_of(c, a, b)), (told, told))
            self.assertEqual((turn_of(b, a, c), turn_of(a, c, b), turn_of(c, b, a)), (-told, -told, -told))
            self.assertEqual((turn_of(a, a, b), turn_of(a, b, b), turn_of(a, b, a)), (0, 0, 0))
            self.assertEqual(turn_of(tuple(6 * x for x in a), b, c), 6 * told)
            between = tuple(2 * x + 3 * y for x, y in zip(a, b))
            self.assertEqual(turn_of(a, between, b), 0)


class WhatIsTold(unittest.TestCase):
    def test_it_is_made_of_whole_numbers(self):
        for one, other, price in zip(some_threes(50, 9), some_threes(50, 10), some_prices(50, 11)):
            self.assertIs(type(worth_at(one, price)), int)
            self.assertIs(type(turn_of(price, (1, 2, 3), (0, 1, 0))), int)
            side = side_of(one, other)
            self.assertTrue(is_plain(side))
            self.assertEqual([type(number) for number in side], [int, int, int])


if __name__ == "__main__":
    unittest.main()
