"""What each edit of a yard makes of a pair and a box: a function for each, which returns them as they are then."""

from twobricks.bounds import MAX_SIDE
from twobricks.errors import BadOrder, BadSide, NoAxis, NoKind, TooLarge
from twobricks.forms import is_index, is_int, is_side, with_side


def check_axis(box, value):
    """Raises NoAxis if value is no axis of the box."""
    if not is_index(value, len(box)):
        raise NoAxis(value)


def check_side(value):
    """Raises BadSide if value is no integer that a side may be."""
    if not is_side(value):
        raise BadSide(value)


def is_order(box, value):
    """Whether value is a tuple with all axes of the box, each once."""
    if not isinstance(value, tuple) or not all([is_int(axis) for axis in value]):
        return False
    return sorted(value) == list(range(len(box)))


def sided(pair, box, axis, number):
    """The edit "side"."""
    check_axis(box, axis)
    check_side(number)
    return (pair, with_side(box, axis, number))


def bricked(pair, box, kind, axis, number):
    """The edit "brick"."""
    if not is_index(kind, 2):
        raise NoKind(kind)
    check_axis(box, axis)
    check_side(number)
    brick = with_side(pair[kind], axis, number)
    return ((brick, pair[1]) if kind == 0 else (pair[0], brick), box)


def swapped(pair, box):
    """The edit "swap"."""
    return ((pair[1], pair[0]), box)


def turned(pair, box, order):
    """The edit "turn"."""
    if not is_order(box, order):
        raise BadOrder(order)
    one, other, whole = [tuple([sides[axis] for axis in order]) for sides in (pair[0], pair[1], box)]
    return ((one, other), whole)


def stretched(pair, box, axis, number):
    """The edit "stretch"."""
    check_axis(box, axis)
    check_side(number)
    if max(pair[0][axis], pair[1][axis], box[axis]) * number > MAX_SIDE:
        raise TooLarge(axis)
    one, other, whole = [with_side(sides, axis, sides[axis] * number) for sides in (pair[0], pair[1], box)]
    return ((one, other), whole)


def grown(pair, box, number):
    """The edit "more"."""
    check_side(number)
    for axis, side in enumerate(box):
        if side + number > MAX_SIDE:
            raise TooLarge(axis)
    return (pair, tuple([side + number for side in box]))


EDITS = {
    "side": sided,
    "brick": bricked,
    "swap": swapped,
    "turn": turned,
    "stretch": stretched,
    "more": grown,
}

# How many arguments the edits take.
ARGUMENTS = {"side": 2, "brick": 3, "swap": 0, "turn": 1, "stretch": 2, "more": 1}


def is_item(value):
    """Whether value is a tuple of the name of an edit and as many arguments as it takes."""
    if not isinstance(value, tuple) or len(value) == 0 or not isinstance(value[0], str):
        return False
    return value[0] in ARGUMENTS and ARGUMENTS[value[0]] == len(value) - 1


def edited(pair, box, item):
    """The pair and the box as an edit makes them, which is told as a tuple of its name and its arguments."""
    change = EDITS[item[0]]
    given = item[1:]
    return change(pair, box, *given)
