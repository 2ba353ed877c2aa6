"""Plans, which put boxes together step by step, so that even great ones are told by few rows."""

from twobricks.bounds import MAX_ROWS, MAX_SIDE
from twobricks.fillings import grid, halves, seams
from twobricks.forms import is_index, is_short_tuple, with_side
from twobricks.papers import cut_at, is_filled


def is_row(kinds, index, value):
    """Whether value has the form of a row with this index: a kind, or an axis and two indexes of earlier rows."""
    if not isinstance(value, tuple):
        return False
    if len(value) == 1:
        return is_index(value[0], len(kinds))
    if len(value) != 3 or not is_index(value[0], len(kinds[0])):
        return False
    return is_index(value[1], index) and is_index(value[2], index)


def row_box(kinds, boxes, row):
    """The box of a row, the boxes of the rows before it being given."""
    if len(row) == 1:
        return kinds[row[0]]
    axis, i, j = row
    return with_side(boxes[i], axis, boxes[i][axis] + boxes[j][axis])


def row_error(kinds, boxes, value):
    """What is wrong with value as the next row, the boxes of the rows before it being given; None if nothing is."""
    if not is_row(kinds, len(boxes), value):
        return "row"
    if len(value) == 1:
        return None
    axis, i, j = value
    if with_side(boxes[j], axis, boxes[i][axis]) != boxes[i]:
        return "sides"
    if boxes[i][axis] + boxes[j][axis] > MAX_SIDE:
        return "great"
    return None


def plan_error(kinds, value):
    """What is wrong with value as a plan for the kinds; None if it is one."""
    if not is_short_tuple(value, MAX_ROWS):
        return (None, "plan")
    boxes = []
    for index, row in enumerate(value):
        error = row_error(kinds, boxes, row)
        if error is not None:
            return (index, error)
        boxes.append(row_box(kinds, boxes, row))
    return None


def row_boxes(kinds, plan):
    """The boxes of all rows."""
    boxes = []
    for row in plan:
        boxes.append(row_box(kinds, boxes, row))
    return boxes


def box_of(kinds, plan):
    """The box of the plan, which is that of its last row."""
    return row_boxes(kinds, plan)[-1]


def bricks_of(kinds, plan):
    """How many bricks of each kind the box of the plan consists of."""
    counts = []
    for row in plan:
        if len(row) == 1:
            counts.append([1 if kind == row[0] else 0 for kind in range(len(kinds))])
        else:
            counts.append([first + second for first, second in zip(counts[row[1]], counts[row[2]])])
    return tuple(counts[-1])


def filling_of(kinds, plan):
    """The filling that the plan tells of its box."""
    boxes = row_boxes(kinds, plan)
    placed = []
    # Goes back from the last row, so what it does not use, however great that is, is never filled.
    waiting = [(len(plan) - 1, (0,) * len(kinds[0]))]
    while len(waiting) > 0:
        index, corner = waiting.pop()
        row = plan[index]
        if len(row) == 1:
            placed.append((row[0], corner))
        else:
            axis, i, j = row
            waiting.append((i, corner))
            waiting.append((j, with_side(corner, axis, corner[axis] + boxes[i][axis])))
    return tuple(sorted(placed))


def add_copies(rows, axis, many):
    """Adds rows that put the box of the last row so many times behind one another, doubling it where possible."""
    once = len(rows) - 1
    digits = f"{many:b}"
    for digit in digits[1:]:
        rows.append((axis, len(rows) - 1, len(rows) - 1))
        if digit == "1":
            rows.append((axis, len(rows) - 1, once))


def add_block(rows, pair, kind, sides):
    """Adds rows that put bricks of one kind together to a box with these sides; returns the index of the last one."""
    rows.append((kind,))
    for axis, side in enumerate(sides):
        add_copies(rows, axis, side // pair[kind][axis])
    return len(rows) - 1


def plan_for(pair, box):
    """A plan for the pair whose box is this one, by the first cut; None if the box is not filled."""
    if not is_filled(pair, box):
        return None
    first, axis, at = cut_at(pair, box, 0)
    rows = []
    if at == 0 or at == box[axis]:
        add_block(rows, pair, first if at > 0 else 1 - first, box)
    else:
        below = add_block(rows, pair, first, with_side(box, axis, at))
        above = add_block(rows, pair, 1 - first, with_side(box, axis, box[axis] - at))
        rows.append((axis, below, above))
    return tuple(rows)


def add_parts(rows, kinds, box, filling):
    """Adds rows that tell the filling; returns the index of the last one, None if no planes cut it apart."""
    if len(filling) == 1:
        rows.append((filling[0][0],))
        return len(rows) - 1
    found = seams(kinds, box, filling)
    if len(found) == 0:
        return None
    # Any seam will do, as a plane that cuts the whole also cuts its parts; one in the middle makes few levels.
    axis, at = found[len(found) // 2]
    below, above = halves(kinds, box, filling, axis, at)
    first = add_parts(rows, kinds, below[0], below[1])
    second = add_parts(rows, kinds, above[0], above[1])
    if first is None or second is None:
        return None
    rows.append((axis, first, second))
    return len(rows) - 1


def plan_of(kinds, box, filling):
    """A plan whose filling is this one; None if there is none."""
    rows = []
    if add_parts(rows, kinds, box, filling) is None:
        return None
    return tuple(rows)


def parts_at(sides, axis, at):
    """Both parts of a box that is cut across the axis."""
    return (with_side(sides, axis, at), with_side(sides, axis, sides[axis] - at))


def best_split(fewest, sides):
    """The least triple (bricks, axis, at) of a cut whose parts are chopped; None if there is none."""
    found = []
    for axis, side in enumerate(sides):
        for at in range(1, side // 2 + 1):
            below, above = parts_at(sides, axis, at)
            if below in fewest and above in fewest:
                found.append((fewest[below][0] + fewest[above][0], axis, at))
    return min(found, default=None)


def fewest_in(kinds, box):
    """For each box up to this one that is chopped, ascending, the triple (bricks, axis, at) with the fewest bricks.

    A box that is a brick has the triple (1, None, None).
    """
    ones = (1,) * len(box)
    fewest = {}
    for sides in grid(ones, [side + 1 for side in box], ones):
        split = (1, None, None) if sides in kinds else best_split(fewest, sides)
        if split is not None:
            fewest[sides] = split
    return fewest


def used_in(fewest, box):
    """The boxes of which the box is put together, itself among them, ascending."""
    used = {box: True}
    for sides in list(fewest)[::-1]:
        _, axis, at = fewest[sides]
        if sides in used and axis is not None:
            for part in parts_at(sides, axis, at):
                used[part] = True
    return sorted(list(used))


def chop_rows(kinds, box, fewest):
    """The rows that put the box together of the fewest bricks."""
    rows = []
    index_of = {}
    for sides in used_in(fewest, box):
        _, axis, at = fewest[sides]
        if axis is None:
            rows.append((kinds.index(sides),))
        else:
            below, above = parts_at(sides, axis, at)
            rows.append((axis, index_of[below], index_of[above]))
        index_of[sides] = len(rows) - 1
    return tuple(rows)


def fewest_bricks(kinds, box):
    """The pair (number, plan) with the fewest bricks of which a plan puts the box together; None if none does."""
    fewest = fewest_in(kinds, box)
    if box not in fewest:
        return None
    return (fewest[box][0], chop_rows(kinds, box, fewest))


def chop(kinds, box):
    """A plan whose box is this one, one with the fewest bricks; None if there is none."""
    found = fewest_bricks(kinds, box)
    return None if found is None else found[1]


def chopped(kinds, box):
    """Whether some plan has this box."""
    return box in fewest_in(kinds, box)
