"""Shapes in the plane of the prices of which an other costs 1."""

from pricebend.prices import by_one


def corners_by_one(shape):
    points = tuple(by_one(corner) for corner in shape if corner[0] != 0)
    ways = tuple(corner[1:] for corner in shape if corner[0] == 0)
    return points, ways
