"""Sides, which are worth something at each price, and the turn of three prices."""


def worth_at(side, price):
    return side[0] * price[0] + side[1] * price[1] + side[2] * price[2]


def side_of(one, other):
    """The side whose worth is from 0 on just where the counts one cost no more than other."""
    return other[0] - one[0], other[1] - one[1], other[2] - one[2]


def turn_of(a, b, c):
    a1, a2, a3 = a
    b1, b2, b3 = b
    c1, c2, c3 = c
    return a1 * (b2 * c3 - b3 * c2) + a2 * (b3 * c1 - b1 * c3) + a3 * (b1 * c2 - b2 * c1)
