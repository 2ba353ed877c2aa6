"""Weights on the cells of a box, which may bar it, and thick fillings, which weights would bar, too."""

from twobricks.errors import BadPaper
from twobricks.fillings import covered, has_cell, lies_in, places
from twobricks.forms import is_cell, is_int, volume, with_side
from twobricks.papers import bar_papers, paper_holds


def weights_error(box, value):
    """What is wrong with value as weights for the box; None if they are some."""
    if not isinstance(value, tuple):
        return (None, "weights")
    for index, item in enumerate(value):
        if not is_weight(box, item):
            return (index, "item")
        if index > 0 and item[0] <= value[index - 1][0]:
            return (index, "order")
    return None


def is_weight(box, value):
    """Whether value is a pair of a cell of the box and an integer other than 0."""
    if not isinstance(value, tuple) or len(value) != 2:
        return False
    return is_cell(box, value[0]) and is_int(value[1]) and value[1] != 0


def sum_in(kinds, weights, placed):
    """What the placed brick weighs."""
    # Goes through the weights, not the cells: the brick may be far greater than the box.
    return sum([number for cell, number in weights if has_cell(kinds, placed, cell)])


def total(weights):
    """What all cells weigh together."""
    return sum([number for _, number in weights])


def sums_of(kinds, box, weights):
    """The pair (what it weighs, itself) for each placed brick in the box, in ascending order of the bricks."""
    numbers = {cell: number for cell, number in weights}
    found = []
    for placed in places(kinds, box):
        heavy = [numbers[cell] for cell in covered(kinds, placed) if cell in numbers]
        found.append((sum(heavy), placed))
    return found


def lightest(kinds, box, weights):
    """The first one of the placed bricks in the box that weigh least; None if none lies in it."""
    sums = sums_of(kinds, box, weights)
    if len(sums) == 0:
        return None
    return min(sums)[1]


def bars(kinds, box, value):
    """Whether value are weights for the box that bar it."""
    if weights_error(box, value) is not None or total(value) >= 0:
        return False
    return all([weight >= 0 for weight, _ in sums_of(kinds, box, value)])


def told(numbers):
    """The weights that a dict tells; cells with 0 are left out."""
    return tuple(sorted([(cell, number) for cell, number in numbers.items() if number != 0]))


def added(one, other):
    """The weights of both together, cell by cell."""
    numbers = {cell: number for cell, number in one}
    for cell, number in other:
        numbers[cell] = numbers.get(cell, 0) + number
    return told(numbers)


def times(weights, number):
    """The weights with each number multiplied."""
    return told({cell: weight * number for cell, weight in weights})


def end_sign(side, number):
    """1 if a brick with this side, one of a row from 0 on, begins at the number, -1 if it ends there, else 0."""
    if number % side == 0:
        return 1
    if (number + 1) % side == 0:
        return -1
    return 0


def sides_weights(pair, box, i, j):
    """The weights of the paper ("sides", i, j)."""
    numbers = {}
    for k in range(box[i]):
        for m in range(box[j]):
            cell = with_side(with_side((0,) * len(box), i, k), j, m)
            numbers[cell] = -end_sign(pair[0][i], k) * end_sign(pair[1][j], m)
    return told(numbers)


def low_numbers(one, other, side):
    """For each number from 0 to the side 1 if it is low, else 0: 0 is not low."""
    # The side less the number: whether it is a sum of ones and others.
    sums = [1]
    for length in range(1, side):
        fits = [part for part in (one, other) if part <= length and sums[length - part] == 1]
        sums.append(min(len(fits), 1))
    return [0] + sums[::-1]


def line_weights(pair, box, axis):
    """The weights of the papers ("step", axis) and ("gap", axis, x, y)."""
    low = low_numbers(pair[0][axis], pair[1][axis], box[axis])
    origin = (0,) * len(box)
    return told({with_side(origin, axis, k): low[k] - low[k + 1] for k in range(box[axis])})


def weights_by(pair, box, value):
    """The weights that a paper makes which says why the box is not filled; raises BadPaper."""
    if not paper_holds(pair, box, value) or value[0] == "cut":
        raise BadPaper(value)
    if value[0] == "sides":
        return sides_weights(pair, box, value[1], value[2])
    return line_weights(pair, box, value[1])


def find_weights(pair, box):
    """Weights that bar the box, made of the first paper that says why it is not filled; None if it is."""
    papers = bar_papers(pair, box)
    if len(papers) == 0:
        return None
    return weights_by(pair, box, papers[0])


def is_thick_brick(kinds, box, value):
    """Whether value is a triple of a kind and a corner, of a brick that lies in the box, and an integer from 1 on."""
    if not isinstance(value, tuple) or len(value) != 3:
        return False
    return lies_in(kinds, box, value[:2]) and is_int(value[2]) and value[2] >= 1


def thickness(kinds, box, value):
    """The thickness of the thick filling; None if value is none."""
    if not isinstance(value, tuple):
        return None
    layers = {}
    for index, item in enumerate(value):
        if not is_thick_brick(kinds, box, item):
            return None
        if index > 0 and item[:2] <= value[index - 1][:2]:
            return None
        for cell in covered(kinds, item[:2]):
            layers[cell] = layers.get(cell, 0) + item[2]
    heights = list(layers.values())
    if len(heights) < volume(box) or min(heights) < max(heights):
        return None
    return heights[0]
