"""How many fillings a small box has, and which number each of them has."""

from twobricks.errors import NoNumber
from twobricks.fillings import covered, filling_error, places
from twobricks.forms import is_index, volume


def strides(box):
    """For each axis how far apart the bits of two cells are that lie beside one another along it.

    Bits are counted along the shortest axis first: so what is covered ahead of an open cell ends evenly, and few
    sets of covered cells come up on the way through the box.
    """
    steps = [0] * len(box)
    step = 1
    for side, axis in sorted([(side, axis) for axis, side in enumerate(box)]):
        steps[axis] = step
        step = step * side
    return steps


def bit_of(steps, cell):
    """The number of the cell's bit."""
    return sum([step * number for step, number in zip(steps, cell)])


def spots(kinds, box):
    """For each placed brick in the box, in ascending order, the pair of its first cell's bit and of all its bits."""
    steps = strides(box)
    found = []
    for placed in places(kinds, box):
        mask = sum([1 << bit_of(steps, cell) for cell in covered(kinds, placed)])
        found.append((bit_of(steps, placed[1]), mask))
    return found


def laid_at(found, bit, masks):
    """How often each set of taken bits comes up once this bit is taken, too, from those that came up before."""
    behind = {}
    for taken, many in found.items():
        is_taken = (taken >> bit) & 1 == 1
        fits = [0] if is_taken else [mask for mask in masks if mask & taken == 0]
        for mask in fits:
            behind[taken | mask] = behind.get(taken | mask, 0) + many
    return behind


def ways(box, marks, taken, least):
    """In how many ways the bits that are not taken are filled by bricks whose index is least or greater.

    The first bit that is not taken can only be the first one of a brick.
    """
    masks_at = [[] for _ in range(volume(box))]
    for bit, mask in marks[least:]:
        masks_at[bit].append(mask)
    found = {taken: 1}
    for bit, masks in enumerate(masks_at):
        found = laid_at(found, bit, masks)
    return sum(found.values())


def count_fillings(kinds, box):
    """How many fillings the box has."""
    return ways(box, spots(kinds, box), 0, 0)


def last_with(box, marks, taken, least, behind):
    """The greatest index such that bricks from it on fill the bits that are not taken in so many ways or more."""
    low, high = least, len(marks)
    while low + 1 < high:
        middle = (low + high) // 2
        if ways(box, marks, taken, middle) >= behind:
            low = middle
        else:
            high = middle
    return low


def filling_at(kinds, box, number):
    """The filling with this number in ascending order; raises NoNumber."""
    marks = spots(kinds, box)
    many = ways(box, marks, 0, 0)
    if not is_index(number, many):
        raise NoNumber(number)
    # How many fillings there are from this one on, among those that begin with the bricks chosen so far.
    behind = many - number
    bricks = places(kinds, box)
    full = (1 << volume(box)) - 1
    taken, least, chosen = 0, 0, []
    while taken < full:
        index = last_with(box, marks, taken, least, behind)
        behind = behind - ways(box, marks, taken, index + 1)
        chosen.append(bricks[index])
        taken, least = taken | marks[index][1], index + 1
    return tuple(chosen)


def filling_number(kinds, box, value):
    """The number of value among the fillings in ascending order; None if it is no filling of the box."""
    if filling_error(kinds, box, value) is not None:
        return None
    marks = spots(kinds, box)
    taken = 0
    number = ways(box, marks, 0, 0) - 1
    for index, placed in enumerate(places(kinds, box)):
        if placed in value:
            number = number - ways(box, marks, taken, index + 1)
            taken = taken | marks[index][1]
    return number


def first_filling(kinds, box):
    """The first filling in ascending order; None if there is none."""
    if count_fillings(kinds, box) == 0:
        return None
    return filling_at(kinds, box, 0)
