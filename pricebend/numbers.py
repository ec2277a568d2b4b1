"""Tables of numbers for the places of two words, which show that no script is cheaper."""

from pricebend.fractions import is_whole
from pricebend.prices import cost_of
from pricebend.scripts import counts_of, ends_of, is_script
from pricebend.table import START, ways_on


def places_of(one, other):
    """All places, each one ahead of those that steps lead to from it."""
    return [(i, j, k) for i in range(len(one) + 1) for j in range(len(other) + 1) for k in range(3)]


def is_come_to(place):
    """Whether steps come to the place from the first one."""
    i, j, k = place
    if k == 0:
        return i > 0 and j > 0 or place == START
    return i > 0 if k == 1 else j > 0


def costs_behind(one, other, price):
    """By each place to which steps come the least cost of those that do."""
    least = {START: 0}
    for place in places_of(one, other):
        if is_come_to(place):
            for cost, behind in ways_on(one, other, price, place):
                through = least[place] + cost
                least[behind] = min(least.get(behind, through), through)
    return least


def three_at(least, i, j):
    return least.get((i, j, 0)), least.get((i, j, 1)), least.get((i, j, 2))


def numbers_at(one, other, price):
    least = costs_behind(one, other, price)
    rows = [[three_at(least, i, j) for j in range(len(other) + 1)] for i in range(len(one) + 1)]
    return tuple(tuple(row) for row in rows)


def is_tuple_of(thing, many):
    return isinstance(thing, tuple) and len(thing) == many


def is_row(thing, many):
    return is_tuple_of(thing, many) and all(is_tuple_of(part, 3) for part in thing)


def number_in(table, place):
    i, j, k = place
    return table[i][j][k]


def stands_well(table, place):
    """Whether a whole number stands at the place where steps come to it, else None."""
    number = number_in(table, place)
    return is_whole(number) if is_come_to(place) else number is None


def has_form(one, other, table):
    if not is_tuple_of(table, len(one) + 1) or not all(is_row(row, len(other) + 1) for row in table):
        return False
    return all(stands_well(table, place) for place in places_of(one, other))


def bounds_its_steps(one, other, price, table, place):
    """Whether behind no step from the place the number is above the one ahead and the step's price."""
    ahead = number_in(table, place)
    return all(number_in(table, behind) <= ahead + cost for cost, behind in ways_on(one, other, price, place))


def bounds_all_steps(one, other, price, table):
    places = [place for place in places_of(one, other) if is_come_to(place)]
    return all(bounds_its_steps(one, other, price, table, place) for place in places)


def is_met(one, other, price, script, table):
    """Whether the script leads from one to other at a cost above none of the numbers at the end."""
    if not is_script(script) or ends_of(script) != (one, other):
        return False
    cost = cost_of(price, counts_of(script))
    return all(cost <= number for number in table[-1][-1] if number is not None)


def numbers_hold(one, other, price, script, table):
    if not has_form(one, other, table) or number_in(table, START) != 0:
        return False
    return bounds_all_steps(one, other, price, table) and is_met(one, other, price, script, table)
