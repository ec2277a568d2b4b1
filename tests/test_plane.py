"""Promise [24]: the corners of a shape in the plane of the prices of which an other costs 1."""

import random
import unittest
from fractions import Fraction

from helper import in_lowest_terms, is_plain, shape_slowly, some_number, some_pair
from pricebend.parting import parted
from pricebend.plane import corners_by_one
from pricebend.prices import price_by
from pricebend.shapes import WHOLE

GREAT = 10 ** 39


def some_shapes(many, seed):
    """Shapes cut by sides of small numbers and of numbers of forty figures, and those of the parts of words."""
    dice = random.Random(seed)
    shapes = [WHOLE]
    while len(shapes) < many:
        figures = dice.choice((1, 1, 2, 40))
        sides = [tuple(some_number(dice, figures) for _ in range(3)) for _ in range(dice.randint(1, 4))]
        shapes.extend(shape for shape in (shape_slowly(sides),) if shape != ())
        if dice.random() < 0.2:
            shapes.extend(shape for counts, script, shape in parted(*some_pair(dice, 6)))
    return shapes


SHAPES = some_shapes(300, 241)


class Told(unittest.TestCase):
    def test_whole(self):
        self.assertEqual(corners_by_one(WHOLE), ((((0, 1), (0, 1)),), ((0, 1), (1, 0))))

    def test_no_corner_without_others(self):
        self.assertEqual(corners_by_one(((1, 0, 0), (2, 1, 0), (2, 0, 1))),
                         ((((0, 1), (0, 1)), ((1, 2), (0, 1)), ((0, 1), (1, 2))), ()))
        self.assertEqual(corners_by_one(((1, 1, 2), (4, 2, 3), (1, 2, 1))),
                         ((((1, 1), (2, 1)), ((1, 2), (3, 4)), ((2, 1), (1, 1))), ()))

    def test_some_corners_without_others(self):
        self.assertEqual(corners_by_one(((0, 0, 1), (2, 0, 1), (2, 1, 0), (0, 1, 0))),
                         ((((0, 1), (1, 2)), ((1, 2), (0, 1))), ((0, 1), (1, 0))))
        self.assertEqual(corners_by_one(((0, 1, 0), (0, 2, 3), (6, 4, 9))), ((((2, 3), (3, 2)),), ((1, 0), (2, 3))))
        self.assertEqual(corners_by_one(((0, 3, 2), (1, 0, 0), (1, 1, 0))),
                         ((((0, 1), (0, 1)), ((1, 1), (0, 1))), ((3, 2),)))

    def test_numbers_of_forty_figures(self):
        shape = ((1, 0, 0), (GREAT, 1, 0), (2 * GREAT, 0, GREAT - 1))
        self.assertEqual(corners_by_one(shape),
                         ((((0, 1), (0, 1)), ((1, GREAT), (0, 1)), ((0, 1), (GREAT - 1, 2 * GREAT))), ()))


class AnyShape(unittest.TestCase):
    def test_points_and_ways_are_in_the_order_of_the_shape(self):
        both = 0
        for shape in SHAPES:
            points, ways = corners_by_one(shape)
            self.assertEqual([(Fraction(*s), Fraction(*t)) for s, t in points],
                             [(Fraction(s, o), Fraction(t, o)) for o, s, t in shape if o])
            self.assertEqual(list(ways), [(s, t) for o, s, t in shape if o == 0])
            both += points != () and ways != ()
        self.assertGreater(both, 50)

    def test_the_points_are_fractions_in_lowest_terms(self):
        for shape in SHAPES:
            for point in corners_by_one(shape)[0]:
                for top, bottom in point:
                    self.assertEqual(in_lowest_terms((top, bottom)), (top, bottom))
                    self.assertGreater(bottom, 0)

    def test_the_points_tell_the_corners_again(self):
        for shape in SHAPES:
            points, ways = corners_by_one(shape)
            told = [price_by(*point) for point in points] + [(0,) + way for way in ways]
            self.assertEqual(sorted(told), sorted(shape))

    def test_it_is_made_of_plain_things_alone(self):
        for shape in SHAPES:
            told = corners_by_one(shape)
            self.assertTrue(is_plain(told))
            self.assertEqual(len(told), 2)


if __name__ == "__main__":
    unittest.main()
