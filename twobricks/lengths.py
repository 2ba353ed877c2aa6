"""Lengths, which are fractions, counted in the greatest units of which all along an axis are whole multiples."""

from math import gcd, lcm

from twobricks.bounds import MAX_SIDE
from twobricks.errors import TooLarge
from twobricks.papers import is_filled


def units(kinds, box):
    """The unit along each axis, each as a pair (upper, lower) without a common divisor."""
    found = []
    for axis, length in enumerate(box):
        unit = length
        for brick in kinds:
            unit = (gcd(unit[0], brick[axis][0]), lcm(unit[1], brick[axis][1]))
        found.append(unit)
    return tuple(found)


def counted(lengths, found):
    """How many units each of the lengths has, by the units that were found for the axes."""
    return tuple([length[0] // unit[0] * (unit[1] // length[1]) for length, unit in zip(lengths, found)])


def whole(kinds, box):
    """The pair (kinds, box) in units instead of lengths; raises TooLarge."""
    found = units(kinds, box)
    whole_kinds = tuple([counted(brick, found) for brick in kinds])
    whole_box = counted(box, found)
    for axis, side in enumerate(whole_box):
        if max([side] + [brick[axis] for brick in whole_kinds]) > MAX_SIDE:
            raise TooLarge(axis)
    return (whole_kinds, whole_box)


def lengths_filled(pair, box):
    """Whether the pair fills the box; raises TooLarge."""
    whole_pair, whole_box = whole(pair, box)
    return is_filled(whole_pair, whole_box)
