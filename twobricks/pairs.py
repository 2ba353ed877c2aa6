"""Pairs compared for all boxes: whether all that the one fills is filled by the other, too."""

from twobricks.errors import UnlikeAxes
from twobricks.fillings import grid
from twobricks.papers import fills_alone, is_filled


def escape(one, other):
    """A brick of one that is, as a box, not filled by other, the first brick ahead; None if there is none.

    If other fills both bricks, it fills all that is put together of them. Raises UnlikeAxes.
    """
    if len(one[0]) != len(other[0]):
        raise UnlikeAxes()
    left = [brick for brick in one if not is_filled(other, brick)]
    return left[0] if len(left) > 0 else None


def within(one, other):
    """Whether each box that is filled by one is filled by other; raises UnlikeAxes."""
    return escape(one, other) is None


def alike(one, other):
    """Whether the same boxes are filled by both; raises UnlikeAxes."""
    return within(one, other) and within(other, one)


def atoms(pair):
    """The sides of both bricks, ascending, without those that the other kind alone fills."""
    one, other = pair
    if fills_alone(other, one):
        return (other,)
    if fills_alone(one, other):
        return (one,)
    return tuple(sorted([one, other]))


def mates(brick, box):
    """All sides, none above the box's, such that the pair of brick and these fills the box; ascending."""
    ones = (1,) * len(box)
    candidates = grid(ones, [side + 1 for side in box], ones)
    return tuple([sides for sides in candidates if is_filled((brick, sides), box)])
