"""All sides that a box may have along an axis to be filled, and all boxes up to some sides that are filled."""

from math import gcd, lcm

from twobricks.errors import NoNumber
from twobricks.forms import is_index, with_side
from twobricks.papers import fills_across, is_filled
from twobricks.sums import count_sums, least_reaching

# Of which sort a side is: both bricks' sides divide it, or the first one's alone, or the second one's alone, or it is
# only a sum of both, or nothing of this. Some sides together are of a sort, too: both bricks divide all of them, or one
# of both alone does, or one of them is a sum and both bricks divide all others, or they can not be in a filled box.
BOTH = 0
FIRST = 1
SECOND = 2
SUM = 3
NEITHER = 4

# All sorts but NEITHER.
FITTING = (0, 1, 2, 3)


def along(pair, box, axis):
    """Which sides fit along the axis: ("none",), ("steps", step) or ("sums", low, high)."""
    lengths = sorted([brick[axis] for brick in pair if fills_across(brick, box, axis)])
    if len(lengths) == 2 and lengths[1] % lengths[0] != 0:
        return ("sums", lengths[0], lengths[1])
    if len(lengths) > 0:
        return ("steps", lengths[0])
    # Now each cut with both kinds is across another axis, so both have to fit along this one.
    step = lcm(pair[0][axis], pair[1][axis])
    if is_filled(pair, with_side(box, axis, step)):
        return ("steps", step)
    return ("none",)


def count_fits(fits, most):
    """How many sides that fit, by what along tells, are at most most."""
    if fits[0] == "none":
        return 0
    if fits[0] == "steps":
        return most // fits[1]
    return count_sums(fits[1], fits[2], most)


def fit_at(fits, number):
    """The side with this number among those that fit, by what along tells; None if none fits."""
    if fits[0] == "none":
        return None
    # All multiples of what is told first fit, so there are enough up to this one.
    return least_reaching(lambda side: count_fits(fits, side), (number + 1) * fits[1], number)


def next_side(pair, box, axis, least):
    """The least side that fits and is at least least; None if there is none."""
    fits = along(pair, box, axis)
    return fit_at(fits, count_fits(fits, least - 1))


def last_gap(pair, box, axis):
    """The greatest integer from 1 on that is no side that fits; 0 if all fit, None if there is no greatest one."""
    fits = along(pair, box, axis)
    if fits == ("steps", 1):
        return 0
    start, period = tail_of(fits)
    return start - 1 if fits[0] == "sums" and period == 1 else None


def tail_of(fits):
    """The pair (start, period) of the sides that fit, by what along tells."""
    if fits[0] == "none":
        return (1, 1)
    if fits[0] == "steps":
        return (1, fits[1])
    # From some sum on all multiples of the period are sums; the last one that is none is as far ahead of the least
    # common multiple as both lengths together.
    return (lcm(fits[1], fits[2]) - fits[1] - fits[2] + 1, gcd(fits[1], fits[2]))


def tail(pair, box, axis):
    """The pair (start, period): the least period with which sides fit or do not, and from where on it is so."""
    return tail_of(along(pair, box, axis))


def count_along(pair, box, axis, most):
    """How many sides that fit are at most most."""
    return count_fits(along(pair, box, axis), most)


def side_at(pair, box, axis, number):
    """The side that fits with this number in ascending order; None if none fits."""
    return fit_at(along(pair, box, axis), number)


def side_number(pair, box, axis, side):
    """The number of the side among those that fit; None if it does not fit."""
    if not is_filled(pair, with_side(box, axis, side)):
        return None
    return count_along(pair, box, axis, side - 1)


def sort_of(one, other, side):
    """Of which sort the side of a filled box is along an axis along which the bricks have the sides one and other."""
    if side % one == 0:
        return BOTH if side % other == 0 else FIRST
    return SECOND if side % other == 0 else SUM


def sort_with(sort, more):
    """Of which sort some sides are together with one more."""
    if sort == BOTH:
        return more
    if more == BOTH or (sort == more and sort != SUM):
        return sort
    return NEITHER


def counts_to(one, other, most):
    """How many sides from 1 to most there are of each sort that fits."""
    both = most // lcm(one, other)
    first = most // one - both
    second = most // other - both
    return (both, first, second, count_sums(one, other, most) - both - first - second)


def ways_on(counts, ways):
    """For each sort of the sides ahead, how many boxes there are with one more side.

    counts tells how many such sides there are of each sort, ways how many boxes there are behind it for each sort.
    """
    found = [sum([counts[more] * ways[sort_with(sort, more)] for more in FITTING]) for sort in FITTING]
    return found + [0]


def ways_behind(pair, most):
    """For each number of axes a list: for each sort of the sides along those, how many boxes up to most there are."""
    found = [[1, 1, 1, 1, 0]]
    for one, other, side in list(zip(pair[0], pair[1], most))[::-1]:
        found.append(ways_on(counts_to(one, other, side), found[-1]))
    return found[::-1]


def count_boxes(pair, most):
    """How many boxes with no side above that of most are filled."""
    return ways_behind(pair, most)[0][BOTH]


def boxes_to(pair, axis, sort, ways, side):
    """How many boxes there are whose side along the axis is at most side, if those before it are of the sort."""
    return ways_on(counts_to(pair[0][axis], pair[1][axis], side), ways)[sort]


def box_at(pair, most, number):
    """The box with this number, in ascending order, of those up to most that are filled; raises NoNumber."""
    ways = ways_behind(pair, most)
    if not is_index(number, ways[0][BOTH]):
        raise NoNumber(number)
    box, sort, rest = (), BOTH, number
    for axis, longest in enumerate(most):
        side = box_side(pair, axis, sort, ways[axis + 1], longest, rest)
        rest = rest - boxes_to(pair, axis, sort, ways[axis + 1], side - 1)
        box = box + (side,)
        sort = sort_with(sort, sort_of(pair[0][axis], pair[1][axis], side))
    return box


def box_side(pair, axis, sort, ways, most, number):
    """The side along the axis of the box with this number among those whose sides before it are of the sort."""
    return least_reaching(lambda side: boxes_to(pair, axis, sort, ways, side), most, number)


def box_number(pair, most, box):
    """The number of the box among those up to most that are filled; None if it is none of them."""
    if not is_filled(pair, box) or any([side > longest for side, longest in zip(box, most)]):
        return None
    ways = ways_behind(pair, most)
    number, sort = 0, BOTH
    for axis, side in enumerate(box):
        number = number + boxes_to(pair, axis, sort, ways[axis + 1], side - 1)
        sort = sort_with(sort, sort_of(pair[0][axis], pair[1][axis], side))
    return number
