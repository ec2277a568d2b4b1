"""Promises [19] to [21]: shapes, the prices that lie in them, and shapes cut by sides."""

import itertools
import random
import unittest

from helper import JUNK, in_lowest_terms, in_order_round, is_plain, is_same, prices_up_to, shape_slowly, some_number
from helper import some_price, turned, with_one_amiss, worth
from pricebend.shapes import WHOLE, cut_by, is_shape, lies_in

GREAT = 10 ** 39
LOWEST = [price for price in prices_up_to(3) if in_lowest_terms(price) == price]
FEW = [price for price in prices_up_to(2) if in_lowest_terms(price) == price]
SQUARE = ((0, 0, 1), (1, 0, 1), (1, 1, 0), (0, 1, 0))
FIVE = ((0, 0, 1), (1, 0, 3), (2, 1, 1), (1, 1, 0), (0, 1, 0))
ACUTE = ((1, 0, 0), (GREAT, 1, 0), (GREAT - 1, 0, 1))
SHAPES = [WHOLE, SQUARE, FIVE, ACUTE, ((1, 0, 0), (2, 1, 0), (2, 0, 1)), ((1, 1, 1), (2, 1, 1), (2, 2, 1)),
          ((1, 1, 2), (2, 1, 1), (1, 2, 1))]
SMALL_SIDES = list(itertools.product((-2, -1, 0, 1, 2), repeat=3))


def is_price(thing):
    """Whether it is a price in lowest terms, asked part by part."""
    if type(thing) is not tuple or len(thing) != 3 or any(type(number) is not int for number in thing):
        return False
    return min(thing) >= 0 and any(thing) and in_lowest_terms(thing) == thing


def is_shape_slowly(thing):
    """What [19] asks, corner by corner."""
    if type(thing) is not tuple or len(thing) < 3 or not all(is_price(corner) for corner in thing):
        return False
    many = len(thing)
    for at in range(many):
        behind = (at + 1) % many
        for third in range(many):
            if third not in (at, behind) and turned(thing[at], thing[behind], thing[third]) <= 0:
                return False
    return all(thing[0] < corner for corner in thing[1:])


def lies_slowly(shape, price):
    """Whether it lies within, on the border or not in the shape, by the price's turns with all edges."""
    turns = [turned(a, b, price) for a, b in zip(shape, shape[1:] + shape[:1])]
    if any(turn < 0 for turn in turns):
        return -1
    return 0 if 0 in turns else 1


def some_sides(dice, many, figures=1):
    return [tuple(dice.choice((0, 1, 1, 1)) * some_number(dice, figures) for _ in range(3)) for _ in range(many)]


def cut_by_all(shape, sides):
    for side in sides:
        if shape == ():
            return ()
        shape = cut_by(shape, side)
    return shape


class Shapes(unittest.TestCase):
    def check(self, told, *things):
        for thing in things:
            self.assertIs(is_shape(thing), told, thing)
            self.assertIs(is_shape_slowly(thing), told, thing)

    def test_whole(self):
        self.assertTrue(is_same(WHOLE, ((0, 0, 1), (1, 0, 0), (0, 1, 0))))
        self.check(True, WHOLE)

    def test_ordinary_shapes(self):
        self.check(True, *SHAPES)

    def test_too_few_corners(self):
        self.check(False, (), ((0, 0, 1),), ((0, 0, 1), (1, 0, 0)))

    def test_three_in_a_row(self):
        self.check(False, ((0, 0, 1), (1, 0, 1), (1, 0, 0)), ((0, 0, 1), (0, 1, 1), (0, 1, 0)),
                   ((1, 0, 0), (1, 1, 1), (0, 1, 1)), ((0, 1, 1), (1, 1, 1), (1, 0, 0)),
                   ((0, 0, 1), (1, 0, 1), (1, 0, 0), (0, 1, 0)), ((0, 0, 1), (1, 0, 0), (1, 1, 0), (0, 1, 0)),
                   ((0, 0, 1), (1, 0, 0), (0, 1, 0), (0, 1, 1)))

    def test_a_corner_twice(self):
        for shape in SHAPES:
            for at, corner in enumerate(shape):
                self.check(False, shape[:at] + (corner,) + shape[at:], shape + (corner,), (corner,) + shape)
        self.check(False, WHOLE + WHOLE, WHOLE[:1] * 3, WHOLE[:2] + WHOLE[1:2])

    def test_not_in_lowest_terms(self):
        for shape in SHAPES:
            for at, corner in enumerate(shape):
                for many in (2, 3, GREAT):
                    more = tuple(many * number for number in corner)
                    self.check(False, shape[:at] + (more,) + shape[at + 1:])

    def test_told_the_other_way_about(self):
        for shape in SHAPES:
            self.check(False, shape[::-1], shape[:1] + shape[:0:-1])

    def test_not_beginning_with_the_least_corner(self):
        for shape in SHAPES:
            for at in range(1, len(shape)):
                self.check(False, shape[at:] + shape[:at])

    def test_corners_that_go_round_in_another_order(self):
        for shape in (SQUARE, FIVE):
            for rest in itertools.permutations(shape[1:]):
                self.check(rest == shape[1:], shape[:1] + rest)
        self.check(False, tuple(FIVE[(2 * at) % 5] for at in range(5)))

    def test_a_corner_within_the_others(self):
        self.check(False, WHOLE + ((1, 1, 1),), ((0, 0, 1), (1, 0, 0), (1, 1, 1), (0, 1, 0)),
                   ((0, 0, 1), (1, 1, 1), (1, 0, 0), (0, 1, 0)))

    def test_numbers_below_0_and_all_0(self):
        self.check(False, ((0, 0, 1), (1, 0, 0), (-1, 1, 0)), ((0, 0, 1), (1, -1, 0), (0, 1, 0)),
                   ((0, 0, 0), (1, 0, 0), (0, 1, 0)), ((-1, 0, 0), (0, -1, 0), (0, 0, -1)), ((0, 0, -1),) + WHOLE[1:])

    def test_truths_for_numbers(self):
        self.check(False, ((0, 0, True), (1, 0, 0), (0, 1, 0)), ((0, 0, 1), (1, False, 0), (0, 1, 0)),
                   ((False, False, True), (True, False, False), (False, True, False)))

    def test_other_things(self):
        self.check(False, *JUNK, "abc", 111, (1, 2, 3), ("001", "100", "010"), (WHOLE,), (WHOLE, WHOLE, WHOLE),
                   ((0, 0, "1"), (1, 0, 0), (0, 1, 0)), ((0, 0, 1), (1, 0, 0), (0, 1)), ((0, 0, 1), (1, 0, 0), (0, 1, 0, 0)),
                   ((0, 0, 1), (1, 0, 0), None), ((0, 0, 1), None, (0, 1, 0)), (None,) + WHOLE[1:])

    def test_one_thing_amiss_at_any_place(self):
        for shape in SHAPES:
            for thing in with_one_amiss(shape):
                self.assertIs(is_shape(thing), is_shape_slowly(thing), thing)

    def test_all_of_three_small_prices(self):
        told = 0
        for thing in itertools.product(LOWEST, repeat=3):
            expected = is_shape_slowly(thing)
            self.assertIs(is_shape(thing), expected, thing)
            told += expected
        self.assertGreater(told, 1000)

    def test_all_of_four_small_prices(self):
        told = 0
        for rest in itertools.permutations(FEW[1:], 3):
            for thing in (FEW[:1] + list(rest), FEW[3:4] + list(rest)):
                expected = is_shape_slowly(tuple(thing))
                self.assertIs(is_shape(tuple(thing)), expected, thing)
                told += expected
        self.assertGreater(told, 100)


class PricesInShapes(unittest.TestCase):
    def test_whole(self):
        for price in prices_up_to(4):
            self.assertEqual(lies_in(WHOLE, price), 0 if 0 in price else 1, price)
        for price in ((GREAT, 1, GREAT), (0, 0, GREAT), (GREAT, 0, 1)):
            self.assertEqual(lies_in(WHOLE, price), 0 if 0 in price else 1, price)

    def test_ordinary_shapes(self):
        for price, told in (((1, 1, 1), 1), ((3, 1, 2), 0), ((3, 2, 2), 1), ((3, 1, 1), -1), ((1, 0, 0), -1),
                            ((5, 4, 1), 0), ((5, 3, 1), -1), ((5, 5, 1), 1)):
            self.assertEqual(lies_in(SQUARE, price), told, price)
        for price, told in (((1, 0, 0), 0), ((3, 1, 0), 0), ((5, 1, 1), 1), ((4, 1, 1), 0), ((3, 1, 1), -1),
                            ((2, 1, 0), 0), ((0, 1, 0), -1)):
            self.assertEqual(lies_in(((1, 0, 0), (2, 1, 0), (2, 0, 1)), price), told, price)

    def test_corners_and_prices_on_edges_and_beyond_them(self):
        for shape in SHAPES:
            for a, b in zip(shape, shape[1:] + shape[:1]):
                self.assertEqual(lies_in(shape, a), 0)
                for many, more in ((1, 1), (2, 5), (GREAT, 1)):
                    self.assertEqual(lies_in(shape, tuple(many * x + more * y for x, y in zip(a, b))), 0)
                beyond = tuple(2 * x - y for x, y in zip(a, b))
                if min(beyond) >= 0:
                    # It is in a row with an edge, but not of the shape.
                    self.assertEqual(lies_in(shape, beyond), -1)
            self.assertEqual(lies_in(shape, tuple(map(sum, zip(*shape)))), 1)

    def test_small_prices(self):
        for shape in SHAPES:
            for price in prices_up_to(4):
                self.assertEqual(lies_in(shape, price), lies_slowly(shape, price), (shape, price))

    def test_a_price_lies_in_a_shape_just_where_its_multiples_do(self):
        for shape in SHAPES:
            for price in prices_up_to(3):
                for many in (2, 6, GREAT):
                    self.assertEqual(lies_in(shape, tuple(many * number for number in price)), lies_in(shape, price))

    def test_prices_of_many_figures(self):
        dice = random.Random(201)
        told = {1: 0, 0: 0, -1: 0}
        for _ in range(1500):
            shape, price = dice.choice(SHAPES), some_price(dice)
            expected = lies_slowly(shape, price)
            self.assertEqual(lies_in(shape, price), expected, (shape, price))
            told[expected] += 1
        self.assertGreater(min(told.values()), 100)
        self.assertEqual(lies_in(ACUTE, (2 * GREAT, 1, 0)), 0)
        self.assertEqual(lies_in(ACUTE, (2 * GREAT, 1, 1)), 1)
        self.assertEqual(lies_in(ACUTE, (2 * GREAT - 1, 1, 1)), 0)
        self.assertEqual(lies_in(ACUTE, (2 * GREAT - 2, 1, 1)), -1)


class Cuts(unittest.TestCase):
    def test_told(self):
        self.assertEqual(cut_by(WHOLE, (1, -2, -2)), ((1, 0, 0), (2, 1, 0), (2, 0, 1)))
        self.assertEqual(cut_by(WHOLE, (-1, 2, 2)), ((0, 0, 1), (2, 0, 1), (2, 1, 0), (0, 1, 0)))
        self.assertEqual(cut_by(WHOLE, (0, 1, -1)), ((0, 1, 0), (0, 1, 1), (1, 0, 0)))
        self.assertEqual(cut_by(WHOLE, (0, -1, 1)), ((0, 0, 1), (1, 0, 0), (0, 1, 1)))
        self.assertEqual(cut_by(WHOLE, (4, -6, 0)), ((0, 0, 1), (1, 0, 0), (3, 2, 0)))
        self.assertEqual(cut_by(SQUARE, (-1, 1, 0)), ((0, 0, 1), (1, 1, 0), (0, 1, 0)))
        self.assertEqual(cut_by(SQUARE, (1, -1, 0)), ((0, 0, 1), (1, 0, 1), (1, 1, 0)))
        self.assertEqual(cut_by(SQUARE, (2, -1, 0)), ((0, 0, 1), (1, 0, 1), (1, 1, 0), (1, 2, 0)))
        self.assertEqual(cut_by(SQUARE, (1, 0, -1)), ((0, 1, 0), (1, 0, 1), (1, 1, 0)))
        self.assertEqual(cut_by(SQUARE, (2, 0, -1)), ((0, 1, 0), (1, 0, 2), (1, 0, 1), (1, 1, 0)))
        self.assertEqual(cut_by(WHOLE, (1, -GREAT, 0)), ((0, 0, 1), (1, 0, 0), (GREAT, 1, 0)))

    def test_a_side_that_leaves_all(self):
        for shape in SHAPES:
            for side in ((1, 0, 0), (0, 1, 0), (0, 0, 1), (1, 2, 3), (GREAT, 0, 0)):
                self.assertEqual(cut_by(shape, side), shape)

    def test_a_side_of_no_numbers_but_0_leaves_nothing(self):
        for shape in SHAPES:
            self.assertEqual(cut_by(shape, (0, 0, 0)), ())

    def test_a_side_that_leaves_nothing_or_a_border_alone(self):
        for side in ((-1, 0, 0), (0, -1, 0), (0, 0, -1), (-1, -1, 0), (-1, -2, -3), (-GREAT, 0, -1)):
            self.assertEqual(cut_by(WHOLE, side), ())
        # Worth 0 along one edge, at one corner, and nowhere; below 0 at all else.
        self.assertEqual(cut_by(SQUARE, (1, -1, -1)), ())
        self.assertEqual(cut_by(SQUARE, (1, -1, -2)), ())
        self.assertEqual(cut_by(SQUARE, (1, -2, -1)), ())
        self.assertEqual(cut_by(SQUARE, (1, -2, -2)), ())

    def test_along_an_edge_and_through_two_corners(self):
        for shape in SHAPES:
            for a, b in itertools.permutations(shape, 2):
                side = (a[1] * b[2] - a[2] * b[1], a[2] * b[0] - a[0] * b[2], a[0] * b[1] - a[1] * b[0])
                kept = [corner for corner in shape if worth(side, corner) >= 0]
                # No corner is new, and two alone make no shape.
                self.assertEqual(cut_by(shape, side), in_order_round(kept) if len(kept) > 2 else (), (shape, side))

    def test_all_small_sides(self):
        for shape in SHAPES:
            bounds = [(a[1] * b[2] - a[2] * b[1], a[2] * b[0] - a[0] * b[2], a[0] * b[1] - a[1] * b[0])
                      for a, b in zip(shape, shape[1:] + shape[:1])]
            for side in SMALL_SIDES:
                self.assertEqual(cut_by(shape, side), shape_slowly(bounds + [side]), (shape, side))

    def test_just_the_prices_of_the_shape_with_a_worth_from_0_on(self):
        for shape in SHAPES[:6]:
            for side in SMALL_SIDES[::3]:
                cut = cut_by(shape, side)
                if cut == ():
                    self.assertFalse(any(worth(side, corner) > 0 for corner in shape))
                    continue
                self.assertTrue(is_shape_slowly(cut), cut)
                for price in prices_up_to(3):
                    held = lies_slowly(shape, price) >= 0 and worth(side, price) >= 0
                    self.assertEqual(lies_slowly(cut, price) >= 0, held, (shape, side, price))

    def test_cut_again_and_again_in_any_order(self):
        dice = random.Random(211)
        left = 0
        for _ in range(400):
            sides = some_sides(dice, dice.randint(1, 5), dice.choice((1, 1, 2, 40)))
            expected = shape_slowly(sides)
            for order in itertools.islice(itertools.permutations(sides), 6):
                self.assertEqual(cut_by_all(WHOLE, order), expected, order)
            self.assertEqual(cut_by_all(WHOLE, sides * 2), expected)
            left += expected != ()
        self.assertGreater(left, 100)

    def test_both_halves_make_the_shape(self):
        dice = random.Random(212)
        for shape in SHAPES:
            for side in some_sides(dice, 40):
                halves = cut_by(shape, side), cut_by(shape, tuple(-number for number in side))
                for price in (some_price(dice), dice.choice(LOWEST), shape[0], shape[-1]):
                    if any(side):
                        held = [half != () and lies_in(half, price) >= 0 for half in halves]
                        self.assertEqual(any(held), lies_in(shape, price) >= 0)

    def test_many_corners(self):
        # Each one of these sides cuts off a corner that the others leave.
        sides = [(n * n, -2 * n, 1) for n in range(1, 30)]
        told = cut_by_all(WHOLE, sides)
        self.assertIs(is_shape(told), True)
        self.assertEqual(len(told), 32)
        self.assertEqual(told, shape_slowly(sides))


class WhatIsTold(unittest.TestCase):
    def test_it_is_made_of_plain_things_alone(self):
        dice = random.Random(213)
        for shape in SHAPES:
            for side in some_sides(dice, 20) + some_sides(dice, 20, 40):
                cut = cut_by(shape, side)
                self.assertTrue(is_plain(cut))
                self.assertIs(is_shape(cut), cut != ())
                self.assertIs(type(lies_in(shape, some_price(dice))), int)

    def test_it_hangs_on_what_is_handed_in_alone(self):
        asked = [(shape, side) for shape in SHAPES for side in SMALL_SIDES[::7]]
        before = [cut_by(*one) for one in asked]
        after = [cut_by(*one) for one in asked[::-1]]
        self.assertEqual(before, after[::-1])


if __name__ == "__main__":
    unittest.main()
