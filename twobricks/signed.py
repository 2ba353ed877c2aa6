"""Signed fillings, in which blocks of bricks may also be taken away, and papers that say whether there is one."""

from twobricks.forms import is_index, is_int, with_side
from twobricks.papers import bar_papers, fills_across, fills_alone
from twobricks.sums import least_share


def is_integers(value, many):
    """Whether value is a tuple of so many integers."""
    return isinstance(value, tuple) and len(value) == many and all([is_int(number) for number in value])


def is_block(kinds, value):
    """Whether value is a block of one of the kinds."""
    if not isinstance(value, tuple) or len(value) != 4:
        return False
    kind, corner, counts, number = value
    if not is_index(kind, len(kinds)) or not is_int(number) or number == 0:
        return False
    many = len(kinds[kind])
    return is_integers(corner, many) and is_integers(counts, many) and min(counts) >= 1


def block_sides(kinds, block):
    """How long the block is along each axis."""
    kind, _, counts, _ = block
    return [side * count for side, count in zip(kinds[kind], counts)]


def add_ends(numbers, corner, sides, number):
    """Adds number at each corner of what begins at the corner, its sign changed for each axis at whose end it is.

    What is the same at all corners is the same at all cells: each cell is counted as often as the corners that are
    not beyond it along any axis tell together.
    """
    ends = [((), number)]
    for start, side in zip(corner, sides):
        below = [(end + (start,), told) for end, told in ends]
        ends = below + [(end + (start + side,), -told) for end, told in ends]
    for end, told in ends:
        numbers[end] = numbers.get(end, 0) + told


def signed_holds(kinds, box, value):
    """Whether value is a signed filling of the box."""
    if not isinstance(value, tuple):
        return False
    for index, block in enumerate(value):
        if not is_block(kinds, block):
            return False
        if index > 0 and block <= value[index - 1]:
            return False
    numbers = {}
    add_ends(numbers, (0,) * len(box), box, -1)
    for block in value:
        add_ends(numbers, block[1], block_sides(kinds, block), block[3])
    return all([number == 0 for number in numbers.values()])


def block_has(kinds, block, cell):
    """Whether the cell is one of the block."""
    sides = block_sides(kinds, block)
    return all([low <= number < low + side for low, number, side in zip(block[1], cell, sides)])


def signed_at(kinds, blocks, cell):
    """How many times the cell is counted in all."""
    return sum([block[3] for block in blocks if block_has(kinds, block, cell)])


def line_papers(pair, box):
    """All signed papers that begin with "line"."""
    found = []
    for axis, side in enumerate(box):
        one, other = pair[0][axis], pair[1][axis]
        share = least_share(one, other, side)
        if share is not None and fills_across(pair[0], box, axis) and fills_across(pair[1], box, axis):
            found.append(("line", axis, share, (side - share * one) // other))
    return found


def fill_papers(pair, box):
    """All signed papers that say that the box has a signed filling."""
    return [("all", kind) for kind in (0, 1) if fills_alone(pair[kind], box)] + line_papers(pair, box)


def signed_papers(pair, box):
    """All signed papers, those that say that there is a signed filling and those that say that there is none.

    The latter also say that there is no filling; gaps do not count here, as bricks may be taken away.
    """
    return fill_papers(pair, box) + [told for told in bar_papers(pair, box) if told[0] != "gap"]


def is_signed(pair, box):
    """Whether the box has a signed filling by the pair."""
    return len(fill_papers(pair, box)) > 0


def signed_paper(pair, box):
    """The first signed paper, those that say that there is a signed filling ahead of the others."""
    return signed_papers(pair, box)[0]


def signed_paper_holds(pair, box, value):
    """Whether value is a signed paper for the pair and the box."""
    if not isinstance(value, tuple) or len(value) == 0:
        return False
    # True and 1 are equal, so a look among the papers alone would take one for the other.
    return all([is_int(item) for item in value[1:]]) and value in signed_papers(pair, box)


def laid(pair, box, kind, axis, start, many):
    """The block of so many layers across the box along the axis, from start on; those before it, taken away, if < 0."""
    counts = tuple([side // length for side, length in zip(box, pair[kind])])
    low = min(start, start + many * pair[kind][axis])
    corner = with_side((0,) * len(box), axis, low)
    return (kind, corner, with_side(counts, axis, abs(many)), 1 if many > 0 else -1)


def signed_fill(pair, box):
    """A signed filling with one block or two; None if the box has none."""
    papers = fill_papers(pair, box)
    if len(papers) == 0:
        return None
    if papers[0][0] == "all":
        kind = papers[0][1]
        return (laid(pair, box, kind, 0, 0, box[0] // pair[kind][0]),)
    # Both numbers are other than 0 here: otherwise one kind alone would fill the box.
    _, axis, first, second = papers[0]
    behind = laid(pair, box, 1, axis, first * pair[0][axis], second)
    return (laid(pair, box, 0, axis, 0, first), behind)
