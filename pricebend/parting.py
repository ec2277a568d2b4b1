"""The parting of all prices by the counts that are least there."""

from pricebend.cones import side_of
from pricebend.errors import TooLong
from pricebend.prices import cost_of
from pricebend.scripts import counts_of
from pricebend.shapes import WHOLE, cut_by, lies_in
from pricebend.table import first_script

MOST_PARTED = 6


def shape_among(counts, known):
    """The shape of the prices at which the counts are least among the known ones, or ()."""
    shape = WHOLE
    for rival in known:
        if rival != counts:
            shape = cut_by(shape, side_of(counts, rival))
        if shape == ():
            return ()
    return shape


def shapes_among(known):
    """By each of the known counts its shape among them, where it has one."""
    shapes = {counts: shape_among(counts, known) for counts in known}
    return {counts: shapes[counts] for counts in shapes if shapes[counts] != ()}


def first_counts(one, other, price):
    return counts_of(first_script(one, other, price))


def cheaper_counts(one, other, shapes):
    """The counts that are cheaper at a corner of one of the shapes than those that have the shape."""
    cheaper = {}
    for told, shape in shapes.items():
        for corner in shape:
            found = first_counts(one, other, corner)
            if cost_of(corner, found) < cost_of(corner, told):
                cheaper[found] = True
    return list(cheaper)


def shapes_of(one, other):
    """By each counts that are alone least at some price the shape of the prices at which they are least.

    The least cost bends down, so where it is met at all corners of a shape, it is met in all of it.
    """
    known = [first_counts(one, other, WHOLE[0])]
    shapes = shapes_among(known)
    new = cheaper_counts(one, other, shapes)
    while new != []:
        # Counts without a shape among fewer have none among more.
        shapes = shapes_among(list(shapes) + new)
        new = cheaper_counts(one, other, shapes)
    return shapes


def price_within(shape):
    return tuple(sum(numbers) for numbers in zip(*shape))


def part_of(one, other, counts, shape):
    # Within the shape all scripts of least cost have these counts, and all that have them are.
    return counts, first_script(one, other, price_within(shape)), shape


def parted(one, other):
    for word in (one, other):
        if len(word) > MOST_PARTED:
            raise TooLong(len(word))
    shapes = shapes_of(one, other)
    return tuple(part_of(one, other, counts, shapes[counts]) for counts in sorted(shapes))


def part_at(parting, price):
    return [at for at, (counts, script, shape) in enumerate(parting) if lies_in(shape, price) >= 0][0]


def has_truth(thing):
    if isinstance(thing, tuple):
        return any(has_truth(part) for part in thing)
    return isinstance(thing, bool)


def parting_holds(one, other, thing):
    # To Python a truth is equal to a number. What is equal to a parting is no deeper than one.
    return thing == parted(one, other) and not has_truth(thing)
