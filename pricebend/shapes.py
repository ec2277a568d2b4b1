"""Shapes: tuples of prices in lowest terms, the corners, as they follow one another round."""

from pricebend.cones import turn_of, worth_at
from pricebend.prices import is_lowest_price, price_of

WHOLE = ((0, 0, 1), (1, 0, 0), (0, 1, 0))


def edges_of(shape):
    """Each two corners that follow one another, the first corner behind the last one, too."""
    return list(zip(shape, shape[1:] + shape[:1]))


def turns_about(shape):
    """The turn of each two corners that follow one another with each other corner as the third."""
    return [turn_of(a, b, c) for a, b in edges_of(shape) for c in shape if c != a and c != b]


def is_shape(thing):
    if not isinstance(thing, tuple) or len(thing) < 3:
        return False
    if not all(is_lowest_price(part) for part in thing):
        return False
    if len(set(thing)) != len(thing) or min(thing) != thing[0]:
        return False
    return all(turn > 0 for turn in turns_about(thing))


def lies_in(shape, price):
    least = min([turn_of(a, b, price) for a, b in edges_of(shape)])
    if least < 0:
        return -1
    return 1 if least > 0 else 0


def corner_between(a, b, worth_a, worth_b):
    """The price between a and b at which a side is worth 0 that has worths of unlike signs there."""
    numbers = [abs(worth_b) * x + abs(worth_a) * y for x, y in zip(a, b)]
    return price_of(*numbers)


def from_the_least(corners):
    first = corners.index(min(corners))
    return tuple(corners[first:] + corners[:first])


def cut_by(shape, side):
    if all(worth_at(side, corner) <= 0 for corner in shape):
        return ()
    corners = []
    for a, b in edges_of(shape):
        worth_a = worth_at(side, a)
        worth_b = worth_at(side, b)
        if worth_a >= 0:
            corners.append(a)
        if worth_a * worth_b < 0:
            corners.append(corner_between(a, b, worth_a, worth_b))
    return from_the_least(corners)
