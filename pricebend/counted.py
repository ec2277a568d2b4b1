"""The scripts of least cost at one price, counted, and told by their numbers in order."""

from pricebend.errors import NoNumber, NotLeast, TooMany
from pricebend.scripts import ends_of
from pricebend.table import START, costs_ahead, step_to, ways_on

MOST_TOLD = 200


def least_ways(one, other, price):
    """By each place the places behind the steps on that cost least, in the order of their moves."""
    ahead = costs_ahead(one, other, price)
    least = {}
    for place in ahead:
        ways = ways_on(one, other, price, place)
        least[place] = [behind for cost, behind in ways if cost + ahead[behind] == ahead[place]]
    return least


def rows_ahead(least):
    """By each place how many rows of steps that cost least lead on from there to the end."""
    many = {}
    # The places stand from the last one back to the first, so those behind a step are told already.
    for place, ways in least.items():
        many[place] = sum(many[behind] for behind in ways) if ways != [] else 1
    return many


def how_many(one, other, price):
    return rows_ahead(least_ways(one, other, price))[START]


def way_by(ways, many, number):
    """The way that the row with the number takes, and its number among those that take it."""
    for behind in ways[:-1]:
        if number < many[behind]:
            return behind, number
        number -= many[behind]
    return ways[-1], number


def script_in(one, other, least, many, number):
    place = START
    steps = []
    while least[place] != []:
        place, number = way_by(least[place], many, number)
        steps.append(step_to(one, other, place))
    return tuple(steps)


def all_scripts(one, other, price):
    least = least_ways(one, other, price)
    many = rows_ahead(least)
    if many[START] > MOST_TOLD:
        raise TooMany(many[START])
    return tuple(script_in(one, other, least, many, number) for number in range(many[START]))


def script_by(one, other, price, number):
    least = least_ways(one, other, price)
    many = rows_ahead(least)
    if number < 0 or number >= many[START]:
        raise NoNumber(number)
    return script_in(one, other, least, many, number)


def place_behind(place, step):
    i, j = place[:2]
    if step[0] == "out":
        return (i + 1, j, 1)
    if step[0] == "in":
        return (i, j + 1, 2)
    return (i + 1, j + 1, 0)


def number_of(one, other, price, script):
    if ends_of(script) != (one, other):
        raise NotLeast("the script leads from another word or to another one")
    least = least_ways(one, other, price)
    many = rows_ahead(least)
    place = START
    number = 0
    for step in script:
        ways = least[place]
        place = place_behind(place, step)
        if place not in ways:
            raise NotLeast("the script is not of least cost")
        number += sum(many[behind] for behind in ways[:ways.index(place)])
    return number
