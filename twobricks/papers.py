"""Cuts, which part a box between two kinds, and papers, which say why a box is filled or why it is not."""

from math import gcd

from twobricks.errors import NoNumber
from twobricks.forms import is_int, volume, with_side
from twobricks.sums import least_share


def fills_alone(brick, sides):
    """Whether bricks of this kind alone fill the sides; if one of these is 0 there are no cells, so any kind does."""
    return 0 in sides or all([side % length == 0 for length, side in zip(brick, sides)])


def fills_across(brick, box, axis):
    """Whether the brick's side divides the box's one along each other axis."""
    return fills_alone(brick, with_side(box, axis, brick[axis]))


def is_cut(pair, box, value):
    """Whether value is a cut of the box."""
    if not isinstance(value, tuple) or len(value) != 3 or not all([is_int(item) for item in value]):
        return False
    first, axis, at = value
    if not 0 <= first <= 1 or not 0 <= axis < len(box) or not 0 <= at <= box[axis]:
        return False
    below = with_side(box, axis, at)
    above = with_side(box, axis, box[axis] - at)
    return fills_alone(pair[first], below) and fills_alone(pair[1 - first], above)


def runs_across(pair, box, first, axis):
    """All at of cuts (first, axis, at), in ascending runs: a list of (first, axis, start, step, many)."""
    low, high = pair[first], pair[1 - first]
    side = box[axis]
    if fills_across(low, box, axis) and fills_across(high, box, axis):
        share = least_share(low[axis], high[axis], side)
        if share is None or share * low[axis] > side:
            return []
        start = share * low[axis]
        step = low[axis] * high[axis] // gcd(low[axis], high[axis])
        return [(first, axis, start, step, (side - start) // step + 1)]
    # Otherwise no cut has cells on both of its sides.
    ends = [at for at in (0, side) if is_cut(pair, box, (first, axis, at))]
    return [(first, axis, at, 1, 1) for at in ends]


def cut_runs(pair, box):
    """All cuts in ascending runs."""
    return [run for first in (0, 1) for axis in range(len(box)) for run in runs_across(pair, box, first, axis)]


def count_cuts(pair, box):
    """How many cuts there are."""
    return sum([many for first, axis, start, step, many in cut_runs(pair, box)])


def cut_at(pair, box, number):
    """The cut with this number in ascending order; raises NoNumber."""
    if is_int(number) and number >= 0:
        rest = number
        for first, axis, start, step, many in cut_runs(pair, box):
            if rest < many:
                return (first, axis, start + rest * step)
            rest = rest - many
    raise NoNumber(number)


def last_of(run):
    """The last cut of a run."""
    first, axis, start, step, many = run
    return (first, axis, start + (many - 1) * step)


def cut_number(pair, box, value):
    """The number of value among the cuts in ascending order; None if it is no cut."""
    if not is_cut(pair, box, value):
        return None
    runs = cut_runs(pair, box)
    before = [run for run in runs if last_of(run) < value]
    first, axis, start, step, many = runs[len(before)]
    return sum([run[4] for run in before]) + (value[2] - start) // step


def is_filled(pair, box):
    """Whether the pair fills the box."""
    return len(cut_runs(pair, box)) > 0


def gaps_along(pair, box, axis):
    """The papers that begin with "gap" along this axis: a list of one or none."""
    one, other, side = pair[0][axis], pair[1][axis], box[axis]
    share = least_share(one, other, side)
    if share is None or share * one <= side:
        return []
    return [("gap", axis, share, (share * one - side) // other)]


def bar_papers(pair, box):
    """All papers that are no cuts, ascending."""
    axes = range(len(box))
    one, other = pair
    first_left = [axis for axis in axes if box[axis] % one[axis] != 0]
    second_left = [axis for axis in axes if box[axis] % other[axis] != 0]
    gaps = [gap for axis in axes for gap in gaps_along(pair, box, axis)]
    sides = [("sides", i, j) for i in first_left for j in second_left if i != j]
    steps = [("step", axis) for axis in axes if box[axis] % gcd(one[axis], other[axis]) != 0]
    return tuple(gaps + sides + steps)


def paper(pair, box):
    """The first cut if there is one, otherwise the first paper that says why the box is not filled."""
    if is_filled(pair, box):
        return ("cut",) + cut_at(pair, box, 0)
    return bar_papers(pair, box)[0]


def paper_holds(pair, box, value):
    """Whether value is a paper for the pair and the box."""
    if not isinstance(value, tuple) or len(value) == 0:
        return False
    # True and 1 are equal, so a look among the papers alone would take one for the other.
    if not all([is_int(item) for item in value[1:]]):
        return False
    if value[0] == "cut":
        return is_cut(pair, box, value[1:])
    return value in bar_papers(pair, box)


def needed(pair, box):
    """The kinds that are in each filling of the box, ascending; None if it is not filled."""
    if not is_filled(pair, box):
        return None
    return tuple([kind for kind in (0, 1) if not fills_alone(pair[1 - kind], box)])


def most_of(pair, box, kind):
    """The greatest number of cells that a cut leaves to the kind; None if there is no cut."""
    leaves = []
    for run in cut_runs(pair, box):
        first, axis, start, _, _ = run
        layers = last_of(run)[2] if first == kind else box[axis] - start
        leaves.append(layers * (volume(box) // box[axis]))
    return max(leaves, default=None)
