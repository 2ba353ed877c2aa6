"""Sides, kinds, pairs, boxes and cells: what is one, and what is wrong with what is none."""

from twobricks.bounds import MAX_DIMS, MAX_KINDS, MAX_SIDE


def is_int(value):
    """Whether value is an integer; True and False are none here, though Python counts them among its own."""
    return isinstance(value, int) and not isinstance(value, bool)


def is_index(value, many):
    """Whether value is the number of one of so many things."""
    return is_int(value) and 0 <= value < many


def is_side(value):
    """Whether value is an integer that a side may be."""
    return is_int(value) and 1 <= value <= MAX_SIDE


def is_short_tuple(value, most):
    """Whether value is a tuple of 1 to most items, whatever they are."""
    return isinstance(value, tuple) and 1 <= len(value) <= most


def sides_error(value):
    """What is wrong with value as sides: None, (None, "sides") or (axis, "side")."""
    if not is_short_tuple(value, MAX_DIMS):
        return (None, "sides")
    for axis, side in enumerate(value):
        if not is_side(side):
            return (axis, "side")
    return None


def kinds_error(value):
    """What is wrong with value as kinds: None, (None, "kinds"), (kind, "sides") or (kind, "axes")."""
    if not is_short_tuple(value, MAX_KINDS):
        return (None, "kinds")
    for kind, sides in enumerate(value):
        if sides_error(sides) is not None:
            return (kind, "sides")
        if len(sides) != len(value[0]):
            return (kind, "axes")
    return None


def pair_error(value):
    """What is wrong with value as a pair: what kinds_error tells, or (None, "pair")."""
    error = kinds_error(value)
    if error is None and len(value) != 2:
        return (None, "pair")
    return error


def box_error(kinds, value):
    """What is wrong with value as a box for the kinds: what sides_error tells, or (None, "axes")."""
    error = sides_error(value)
    if error is None and len(value) != len(kinds[0]):
        return (None, "axes")
    return error


def is_cell(box, value):
    """Whether value is a cell of the box."""
    if not isinstance(value, tuple) or len(value) != len(box):
        return False
    for number, side in zip(value, box):
        if not is_index(number, side):
            return False
    return True


def volume(sides):
    """How many cells a box with these sides has."""
    cells = 1
    for side in sides:
        cells = cells * side
    return cells


def with_side(sides, axis, side):
    """The sides, or a corner, with this number along the axis."""
    return sides[:axis] + (side,) + sides[axis + 1:]
