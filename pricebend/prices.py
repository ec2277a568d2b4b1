"""Prices: tuples (o, s, t) of an other, of a letter left out or put in, of a stretch."""

from pricebend.errors import NoPoint, NoPrice
from pricebend.fractions import common_divisor, fraction_of, is_whole


def divisor_of_all(o, s, t):
    return common_divisor(common_divisor(o, s), t)


def is_lowest_price(thing):
    """Whether the thing, whatever it is, is a price in lowest terms."""
    if not isinstance(thing, tuple) or len(thing) != 3:
        return False
    if not all(is_whole(part) and part >= 0 for part in thing):
        return False
    return divisor_of_all(*thing) == 1


def price_of(o, s, t):
    if o < 0 or s < 0 or t < 0:
        raise NoPrice("no number of a price is below 0")
    divisor = divisor_of_all(o, s, t)
    if divisor == 0:
        raise NoPrice("not all numbers of a price are 0")
    return o // divisor, s // divisor, t // divisor


def price_by(s, t):
    # Both bottoms are above 0, so a fraction below nought stays below 0 and is refused.
    return price_of(s[1] * t[1], s[0] * t[1], t[0] * s[1])


def check_others(price):
    if price[0] == 0:
        raise NoPoint("nothing is divided by an other that costs nothing")


def by_one(price):
    check_others(price)
    o, s, t = price
    return fraction_of(s, o), fraction_of(t, o)


def cost_of(price, counts):
    o, s, t = price
    others, letters, stretches = counts
    return o * others + s * letters + t * stretches


def cost_by_one(price, counts):
    check_others(price)
    return fraction_of(cost_of(price, counts), price[0])
