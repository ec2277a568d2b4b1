"""Whole numbers, and fractions: tuples (top, bottom) in lowest terms, the bottom from 1 on."""

from pricebend.errors import NoFraction


def is_whole(thing):
    # To Python the truths are ints, too; here they stand for no number.
    return isinstance(thing, int) and not isinstance(thing, bool)


def common_divisor(a, b):
    """The greatest number that divides both, whatever their signs; of 0 and 0 it is told as 0."""
    a = abs(a)
    b = abs(b)
    while b != 0:
        a, b = b, a % b
    return a


def fraction_of(top, bottom=1):
    if bottom == 0:
        raise NoFraction("nothing is divided by nought")
    divisor = common_divisor(top, bottom)
    if bottom < 0:
        divisor = -divisor
    return top // divisor, bottom // divisor


def plus(a, b):
    return fraction_of(a[0] * b[1] + b[0] * a[1], a[1] * b[1])


def minus(a, b):
    return fraction_of(a[0] * b[1] - b[0] * a[1], a[1] * b[1])


def times(a, b):
    return fraction_of(a[0] * b[0], a[1] * b[1])


def over(a, b):
    return fraction_of(a[0] * b[1], a[1] * b[0])


def is_less(a, b):
    return a[0] * b[1] < b[0] * a[1]
