"""Promises [13] and [14]: prices, prices by one other, and what counts cost at them."""

import math
import random
import unittest
from fractions import Fraction

from helper import check_refused, is_plain, prices_up_to, some_numbers, some_price
from pricebend.prices import by_one, cost_by_one, cost_of, price_by, price_of

DICE = random.Random(13)
PRICES = prices_up_to(4) + [some_price(DICE) for _ in range(200)]
NUMBERS = some_numbers(60, 14)
COUNTS = [(0, 0, 0), (1, 0, 0), (0, 1, 0), (0, 0, 1), (-1, -2, -3)]
COUNTS += [tuple(DICE.choice(NUMBERS) for _ in range(3)) for _ in range(60)]
FREE_OTHERS = [(0, 1, 0), (0, 0, 1), (0, 2, 4), (0, 0, 7), (0, 9, 0), (0, 10 ** 39, 1), (0, 1, 10 ** 39)]


def told(worth):
    return (worth.numerator, worth.denominator)


class OfThreeNumbers(unittest.TestCase):
    def test_told_ones(self):
        for numbers, price in (
            ((1, 1, 1), (1, 1, 1)), ((2, 4, 6), (1, 2, 3)), ((6, 10, 15), (6, 10, 15)), ((12, 20, 30), (6, 10, 15)),
            ((1, 0, 0), (1, 0, 0)), ((0, 1, 0), (0, 1, 0)), ((0, 0, 1), (0, 0, 1)),
            ((5, 0, 0), (1, 0, 0)), ((0, 5, 0), (0, 1, 0)), ((0, 0, 5), (0, 0, 1)),
            ((10 ** 39, 0, 0), (1, 0, 0)), ((0, 10 ** 39, 0), (0, 1, 0)), ((0, 0, 10 ** 40 - 1), (0, 0, 1)),
            ((0, 4, 6), (0, 2, 3)), ((4, 0, 6), (2, 0, 3)), ((4, 6, 0), (2, 3, 0)), ((4, 6, 1), (4, 6, 1)),
            ((10 ** 39, 2 * 10 ** 39, 3 * 10 ** 39), (1, 2, 3)), ((10 ** 39, 10 ** 39, 1), (10 ** 39, 10 ** 39, 1)),
        ):
            with self.subTest(numbers=numbers):
                self.assertEqual(price_of(*numbers), price)

    def test_many(self):
        for price in PRICES:
            divisor = math.gcd(*price)
            self.assertEqual(price_of(*price), tuple(number // divisor for number in price))

    def test_multiples_make_the_same_price(self):
        for price in PRICES:
            for many in (2, 3, 10, 10 ** 20):
                self.assertEqual(price_of(*(many * number for number in price)), price_of(*price))

    def test_numbers_below_0_are_refused(self):
        for price in PRICES[::5]:
            for at in range(3):
                for below in (-1, -2, -(10 ** 39)):
                    wrong = price[:at] + (below,) + price[at + 1:]
                    check_refused(self, "NoPrice", None, price_of, *wrong)
        for wrong in ((-1, -1, -1), (-2, -4, -6), (0, 0, -1), (0, -1, 0), (-1, 0, 0), (-1, 1, 0), (0, -3, -3)):
            check_refused(self, "NoPrice", None, price_of, *wrong)

    def test_all_0_is_refused(self):
        check_refused(self, "NoPrice", None, price_of, 0, 0, 0)


class OfTwoFractions(unittest.TestCase):
    def test_told_ones(self):
        for s, t, price in (
            ((0, 1), (0, 1), (1, 0, 0)), ((1, 1), (1, 1), (1, 1, 1)), ((1, 2), (1, 3), (6, 3, 2)),
            ((1, 2), (3, 2), (2, 1, 3)), ((1, 2), (1, 4), (4, 2, 1)), ((5, 6), (3, 4), (12, 10, 9)),
            ((2, 1), (0, 1), (1, 2, 0)), ((0, 1), (2, 3), (3, 0, 2)), ((4, 1), (6, 1), (1, 4, 6)),
            ((1, 10 ** 39), (1, 1), (10 ** 39, 1, 10 ** 39)),
        ):
            with self.subTest(s=s, t=t):
                self.assertEqual(price_by(s, t), price)

    def fractions(self):
        small = {told(Fraction(top, bottom)) for top in range(7) for bottom in range(1, 7)}
        great = {told(Fraction(abs(a), abs(b))) for a, b in zip(NUMBERS, NUMBERS[::-1]) if b != 0}
        return sorted(small | great)

    def test_many(self):
        fractions = self.fractions()
        for s in fractions:
            for t in fractions:
                price = price_by(s, t)
                self.assertGreaterEqual(price[0], 1)
                self.assertEqual(math.gcd(*price), 1)
                self.assertEqual(Fraction(price[1], price[0]), Fraction(*s))
                self.assertEqual(Fraction(price[2], price[0]), Fraction(*t))
                self.assertEqual(by_one(price), (s, t))

    def test_a_fraction_below_nought_is_refused(self):
        for below in ((-1, 1), (-1, 2), (-7, 3), (-(10 ** 39), 1), (-1, 10 ** 39)):
            for other in ((0, 1), (1, 1), (1, 2), (10 ** 39, 7), below, (-3, 5)):
                with self.subTest(below=below, other=other):
                    check_refused(self, "NoPrice", None, price_by, below, other)
                    check_refused(self, "NoPrice", None, price_by, other, below)


class ByOneOther(unittest.TestCase):
    def test_told_ones(self):
        for price, points in (
            ((1, 0, 0), ((0, 1), (0, 1))), ((7, 0, 0), ((0, 1), (0, 1))), ((1, 1, 1), ((1, 1), (1, 1))),
            ((6, 3, 2), ((1, 2), (1, 3))), ((12, 6, 4), ((1, 2), (1, 3))), ((2, 4, 0), ((2, 1), (0, 1))),
            ((2, 0, 5), ((0, 1), (5, 2))), ((10 ** 39, 1, 2), ((1, 10 ** 39), (1, 5 * 10 ** 38))),
        ):
            with self.subTest(price=price):
                self.assertEqual(by_one(price), points)

    def test_many(self):
        for price in PRICES:
            if price[0] != 0:
                o, s, t = price
                self.assertEqual(by_one(price), (told(Fraction(s, o)), told(Fraction(t, o))))
                self.assertEqual(price_by(*by_one(price)), price_of(*price))

    def test_an_other_that_costs_nothing_is_refused(self):
        for price in FREE_OTHERS + [price for price in PRICES if price[0] == 0]:
            check_refused(self, "NoPoint", None, by_one, price)


class WhatCountsCost(unittest.TestCase):
    def test_told_ones(self):
        for price, counts, cost in (
            ((2, 3, 5), (0, 0, 0), 0), ((2, 3, 5), (1, 0, 0), 2), ((2, 3, 5), (0, 1, 0), 3), ((2, 3, 5), (0, 0, 1), 5),
            ((2, 3, 5), (1, 2, 2), 18), ((4, 6, 10), (1, 2, 2), 36), ((2, 3, 5), (-1, -2, -2), -18),
            ((2, 3, 5), (5, 0, -2), 0), ((1, 0, 0), (7, 8, 9), 7), ((0, 1, 0), (7, 8, 9), 8), ((0, 0, 1), (7, 8, 9), 9),
            ((0, 0, 3), (7, 8, 9), 27), ((10 ** 39, 1, 0), (10 ** 39, -1, 5), 10 ** 78 - 1),
        ):
            with self.subTest(price=price, counts=counts):
                self.assertEqual(cost_of(price, counts), cost)

    def test_many(self):
        for price in PRICES[::3]:
            for counts in COUNTS:
                cost = sum(a * b for a, b in zip(price, counts))
                self.assertEqual(cost_of(price, counts), cost)
                if price[0] != 0:
                    self.assertEqual(cost_by_one(price, counts), told(Fraction(cost, price[0])))

    def test_told_ones_by_one_other(self):
        for price, counts, cost in (
            ((2, 3, 5), (0, 0, 0), (0, 1)), ((2, 3, 5), (1, 2, 2), (9, 1)), ((4, 6, 10), (1, 2, 2), (9, 1)),
            ((2, 3, 5), (0, 1, 0), (3, 2)), ((2, 3, 5), (0, -1, 0), (-3, 2)), ((6, 3, 2), (0, 1, 1), (5, 6)),
            ((1, 0, 0), (7, 8, 9), (7, 1)), ((5, 0, 0), (7, 8, 9), (7, 1)), ((2, 3, 5), (5, 0, -2), (0, 1)),
        ):
            with self.subTest(price=price, counts=counts):
                self.assertEqual(cost_by_one(price, counts), cost)

    def test_by_one_other_that_costs_nothing_is_refused(self):
        for price in FREE_OTHERS + [price for price in PRICES if price[0] == 0]:
            for counts in COUNTS[:8]:
                check_refused(self, "NoPoint", None, cost_by_one, price, counts)

    def test_an_other_that_costs_nothing_has_a_cost(self):
        for price in FREE_OTHERS:
            self.assertEqual(cost_of(price, (9, 1, 1)), price[1] + price[2])


class WhatIsTold(unittest.TestCase):
    def test_it_is_made_of_whole_numbers_alone(self):
        for price in PRICES:
            self.assertEqual([type(number) for number in price_of(*price)], [int, int, int])
            self.assertEqual(type(price_of(*price)), tuple)
            self.assertIs(type(cost_of(price, (1, 2, 3))), int)
            if price[0] != 0:
                self.assertTrue(is_plain(by_one(price)))
                self.assertTrue(is_plain(price_by(*by_one(price))))
                self.assertEqual([type(number) for number in cost_by_one(price, (1, -2, 3))], [int, int])

    def test_a_refusal_changes_no_later_answer(self):
        check_refused(self, "NoPrice", None, price_of, 0, 0, 0)
        check_refused(self, "NoPoint", None, by_one, (0, 1, 1))
        check_refused(self, "NoPoint", None, cost_by_one, (0, 1, 1), (1, 1, 1))
        self.assertEqual(price_of(2, 2, 2), (1, 1, 1))
        self.assertEqual(by_one((1, 1, 1)), ((1, 1), (1, 1)))
        self.assertEqual(cost_by_one((1, 1, 1), (1, 1, 1)), (3, 1))


if __name__ == "__main__":
    unittest.main()
