"""Placed bricks, and fillings: what is one, how one is found, parted, joined and mirrored."""

from twobricks.errors import NoSeam, Unfit
from twobricks.forms import is_index, is_int, with_side
from twobricks.papers import cut_at, is_filled


def grid(starts, stops, steps):
    """All tuples that have, for each axis, a number from its start on, below its stop, by its step; ascending."""
    rows = [()]
    for start, stop, step in zip(starts, stops, steps):
        rows = [row + (number,) for row in rows for number in range(start, stop, step)]
    return rows


def cells_of(box):
    """The cells of the box, ascending."""
    return grid((0,) * len(box), box, (1,) * len(box))


def covered(kinds, placed):
    """The cells of the placed brick, ascending."""
    kind, corner = placed
    stops = [number + side for number, side in zip(corner, kinds[kind])]
    return tuple(grid(corner, stops, (1,) * len(corner)))


def lies_in(kinds, box, value):
    """Whether value is a placed brick that lies in the box."""
    if not isinstance(value, tuple) or len(value) != 2:
        return False
    kind, corner = value
    if not is_index(kind, len(kinds)):
        return False
    if not isinstance(corner, tuple) or len(corner) != len(box):
        return False
    for number, side, room in zip(corner, kinds[kind], box):
        if not is_int(number) or not 0 <= number <= room - side:
            return False
    return True


def corners(brick, box):
    """The corners of all bricks with these sides that lie in the box, ascending."""
    return cells_of([room - side + 1 for side, room in zip(brick, box)])


def places(kinds, box):
    """All placed bricks that lie in the box, ascending."""
    return tuple([(kind, corner) for kind, brick in enumerate(kinds) for corner in corners(brick, box)])


def filling_error(kinds, box, value):
    """What is wrong with value as a filling of the box; None if it is one."""
    if not isinstance(value, tuple):
        return (None, "filling")
    taken = set()
    for index, item in enumerate(value):
        if not lies_in(kinds, box, item):
            return (index, "brick")
        if index > 0 and item <= value[index - 1]:
            return (index, "order")
        for cell in covered(kinds, item):
            if cell in taken:
                return (index, "overlap")
            taken.add(cell)
    for cell in cells_of(box):
        if cell not in taken:
            return (cell, "open")
    return None


def counts_in(kinds, filling):
    """How many bricks of each kind are in the filling."""
    counts = [0] * len(kinds)
    for kind, _ in filling:
        counts[kind] = counts[kind] + 1
    return tuple(counts)


def has_cell(kinds, placed, cell):
    """Whether the cell is one of the placed brick."""
    kind, corner = placed
    return all([low <= number < low + side for low, number, side in zip(corner, cell, kinds[kind])])


def line_in(kinds, box, filling, axis, cell):
    """The kinds of the bricks that are met along the axis through the cell, from 0 on."""
    met = []
    for kind, corner in filling:
        if has_cell(kinds, (kind, corner), with_side(cell, axis, corner[axis])):
            met.append((corner[axis], kind))
    return tuple([kind for _, kind in sorted(met)])


def stacked(kinds, kind, starts, stops):
    """Bricks of one kind that fill the cells from the starts on and below the stops."""
    return [(kind, corner) for corner in grid(starts, stops, kinds[kind])]


def fill(pair, box):
    """A filling of the box, the one that the first cut tells; None if there is none."""
    if not is_filled(pair, box):
        return None
    first, axis, at = cut_at(pair, box, 0)
    origin = (0,) * len(box)
    below = stacked(pair, first, origin, with_side(box, axis, at))
    above = stacked(pair, 1 - first, with_side(origin, axis, at), box)
    return tuple(sorted(below + above))


def is_seam(kinds, box, filling, axis, at):
    """Whether (axis, at), which may be any values, is a seam of the filling."""
    if not is_index(axis, len(box)):
        return False
    if not is_int(at) or not 0 < at < box[axis]:
        return False
    return not any([corner[axis] < at < corner[axis] + kinds[kind][axis] for kind, corner in filling])


def seams(kinds, box, filling):
    """All seams of the filling, ascending."""
    found = []
    for axis, side in enumerate(box):
        found.extend([(axis, at) for at in range(1, side) if is_seam(kinds, box, filling, axis, at)])
    return tuple(found)


def moved(placed, axis, by):
    """The placed brick moved along the axis, towards 0 if by is below 0."""
    kind, corner = placed
    return (kind, with_side(corner, axis, corner[axis] + by))


def halves(kinds, box, filling, axis, at):
    """Both parts along a seam, each a pair (box, filling) that begins at 0; raises NoSeam."""
    if not is_seam(kinds, box, filling, axis, at):
        raise NoSeam(axis, at)
    below = [placed for placed in filling if placed[1][axis] < at]
    above = [moved(placed, axis, -at) for placed in filling if placed[1][axis] >= at]
    below_box = with_side(box, axis, at)
    above_box = with_side(box, axis, box[axis] - at)
    return ((below_box, tuple(below)), (above_box, tuple(above)))


def joined(kinds, box, filling, other_box, other, axis):
    """Both filled boxes behind one another along the axis, as a pair (box, filling); raises Unfit."""
    if with_side(other_box, axis, box[axis]) != box:
        raise Unfit()
    behind = [moved(placed, axis, box[axis]) for placed in other]
    whole = with_side(box, axis, box[axis] + other_box[axis])
    return (whole, tuple(sorted(list(filling) + behind)))


def mirrored(kinds, box, filling, axis):
    """The filling with all bricks mirrored along the axis."""
    turned = []
    for kind, corner in filling:
        behind = box[axis] - corner[axis] - kinds[kind][axis]
        turned.append((kind, with_side(corner, axis, behind)))
    return tuple(sorted(turned))
