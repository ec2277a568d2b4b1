"""The least cost at one price, and the first script that has it, found from place to place.

A place is a tuple (i, j, k): i letters of the one word are taken, j letters of the other one are
made, and k is the move of the last step: 0 for a keep or an other, 1 for an out, 2 for an in.
"""

from pricebend.scripts import step_between

START = (0, 0, 0)


def ways_on(one, other, price, place):
    """A tuple (cost, place behind) for each step on from the place, in the order of their moves."""
    o, s, t = price
    i, j, k = place
    ways = []
    if i < len(one) and j < len(other):
        ways.append((0 if one[i] == other[j] else o, (i + 1, j + 1, 0)))
    if i < len(one):
        ways.append((s if k == 1 else s + t, (i + 1, j, 1)))
    if j < len(other):
        ways.append((s if k == 2 else s + t, (i, j + 1, 2)))
    return ways


def costs_ahead(one, other, price):
    """By each place the least cost of steps from there to where all letters are taken and made."""
    ahead = {}
    for i in range(len(one), -1, -1):
        for j in range(len(other), -1, -1):
            for k in range(3):
                ways = ways_on(one, other, price, (i, j, k))
                ahead[(i, j, k)] = min([cost + ahead[behind] for cost, behind in ways], default=0)
    return ahead


def least_cost(one, other, price):
    return costs_ahead(one, other, price)[START]


def step_to(one, other, behind):
    """The step that leads to the place behind it."""
    i, j, move = behind
    if move == 1:
        return ("out", one[i - 1])
    if move == 2:
        return ("in", other[j - 1])
    return step_between(one[i - 1], other[j - 1])


def first_behind(ways, ahead, least):
    """The place behind the first way by which the least cost is met."""
    return [behind for cost, behind in ways if cost + ahead[behind] == least][0]


def first_script(one, other, price):
    ahead = costs_ahead(one, other, price)
    place = START
    steps = []
    # No script's moves begin those of another one, so the least move that will do at each place
    # makes the first script of all.
    while place[:2] != (len(one), len(other)):
        place = first_behind(ways_on(one, other, price, place), ahead, ahead[place])
        steps.append(step_to(one, other, place))
    return tuple(steps)
