"""A2, A3, E1, E2, E3: signed fillings, and papers that say whether there is one."""

import itertools
import math
import random
import unittest

from tests.values import (
    ANY_VALUES, MOST, NO_INTEGERS, bent, call_quick, call_unchanged, cells_of, check_names, is_integer, put, repr_deep,
    small_boxes, some_pair,
)
from twobricks.papers import cut_at, is_filled
from twobricks.signed import is_signed, signed_at, signed_fill, signed_holds, signed_paper, signed_paper_holds

P = ((2, 2), (3, 3))
S = ((0, (0, 0), (2, 3), 1), (1, (1, 0), (1, 2), -1))


def is_plain_block(kinds, value):
    """Whether value has the form of a block."""
    if value.__class__ is not tuple or len(value) != 4:
        return False
    kind, corner, counts, number = value
    if not is_integer(kind) or kind not in range(len(kinds)) or not is_integer(number) or number == 0:
        return False
    for numbers in (corner, counts):
        if numbers.__class__ is not tuple or len(numbers) != len(kinds[0]) or not all(map(is_integer, numbers)):
            return False
    return all(count >= 1 for count in counts)


def counted_at(kinds, blocks, cell):
    """How many times a cell is counted in all."""
    found = 0
    for kind, corner, counts, number in blocks:
        inside = [0 <= at - low < side * count for at, low, side, count in zip(cell, corner, kinds[kind], counts)]
        found += number if all(inside) else 0
    return found


def plain_holds(kinds, box, value):
    """What signed_holds must tell: looks at one cell of each region between all ends of blocks and of the box."""
    if value.__class__ is not tuple or not all(is_plain_block(kinds, block) for block in value):
        return False
    if list(value) != sorted(set(value)):
        return False
    ends = [{-1, 0, side} for side in box]
    for kind, corner, counts, _ in value:
        for axis, (low, side, count) in enumerate(zip(corner, kinds[kind], counts)):
            ends[axis] |= {low, low + side * count}
    inside = set(itertools.product(*[[end for end in ends[axis] if 0 <= end < side] for axis, side in enumerate(box)]))
    return all(counted_at(kinds, value, cell) == (cell in inside) for cell in itertools.product(*ends))


def told_together(blocks):
    """The ascending tuple of the blocks, those at the same place with the same counts taken as one."""
    numbers = {}
    for kind, corner, counts, number in blocks:
        numbers[kind, corner, counts] = numbers.get((kind, corner, counts), 0) + number
    return tuple(sorted(place + (number,) for place, number in numbers.items() if number))


def block_parts(kinds, block, axis, at):
    """Two blocks that are the block, cut behind at of its bricks along the axis."""
    kind, corner, counts, number = block
    behind = put(corner, axis, corner[axis] + at * kinds[kind][axis])
    return [(kind, corner, put(counts, axis, at), number),
            (kind, behind, put(counts, axis, counts[axis] - at), number)]


def zero_blocks(kinds, rng, great=False):
    """Blocks that come to 0 together: one that is put in, in parts, and taken away again."""
    kind = rng.randrange(len(kinds))
    far = 10 ** 30 if great else 6
    many = len(kinds[0])
    counts = tuple(rng.randint(1, far) for _ in range(many))
    block = (kind, tuple(rng.randint(-far, far) for _ in range(many)), counts, rng.choice((-2, -1, 1, 3)))
    axis = rng.randrange(many)
    found = [block[:3] + (-block[3],)]
    if counts[axis] > 1:
        return found + block_parts(kinds, block, axis, rng.randint(1, counts[axis] - 1))
    # As many bricks of one kind as of the other one along each axis, so that both blocks are the same cells.
    other = rng.randrange(len(kinds))
    return [(kind, block[1], kinds[other], 5), (other, block[1], kinds[kind], -5)] if kind != other else []


def some_signed(rng, great=False):
    """Kinds, a box, and a signed filling of it with some blocks."""
    many = rng.randint(1, 4 if great else 3)
    longest = MOST if great else 3
    kinds = tuple(tuple(rng.randint(1, longest) for _ in range(many)) for _ in range(rng.randint(1, 4)))
    kind = rng.randrange(len(kinds))
    counts = tuple(rng.randint(1, max(1, (MOST if great else 4) // side)) for side in kinds[kind])
    box = tuple(side * count for side, count in zip(kinds[kind], counts))
    blocks = [(kind, (0,) * many, counts, 1)]
    for _ in range(rng.randint(0, 2)):
        blocks += zero_blocks(kinds, rng, great)
    return kinds, box, told_together(blocks)


def line_numbers(a, b, side):
    """The pair (x, y) of a line with these sides along its axis, found by trying; None if there is none."""
    for x in range(b // math.gcd(a, b)):
        if (side - x * a) % b == 0:
            return x, (side - x * a) // b
    return None


def plain_fills(pair, box):
    """All signed papers that say that there is a signed filling."""
    axes = range(len(box))
    found = [("all", kind) for kind in (0, 1) if all(box[k] % pair[kind][k] == 0 for k in axes)]
    for axis in axes:
        others = [k for k in axes if k != axis]
        numbers = line_numbers(pair[0][axis], pair[1][axis], box[axis])
        if numbers is not None and all(box[k] % brick[k] == 0 for brick in pair for k in others):
            found.append(("line", axis) + numbers)
    return found


def plain_bars(pair, box):
    """All signed papers that say that there is none."""
    axes = range(len(box))
    found = [("sides", i, j) for i, j in itertools.permutations(axes, 2) if box[i] % pair[0][i] and box[j] % pair[1][j]]
    return found + [("step", k) for k in axes if box[k] % math.gcd(pair[0][k], pair[1][k])]


def in_span(rows, target):
    """Whether target is a sum of the rows, each taken some whole number of times, also below 0."""
    basis = {}

    def reduced(row):
        row = list(row)
        for at in range(len(row)):
            if row[at] and at in basis:
                times = row[at] // basis[at][at]
                row = [number - times * other for number, other in zip(row, basis[at])]
            if row[at]:
                return at, row
        return None

    for row in rows:
        left = reduced(row)
        while left is not None:
            at, row = left
            # Euclid's way: the lesser one stays, the other one is reduced by it.
            basis[at], row = row, basis.get(at)
            left = None if row is None else reduced(row)
    return reduced(target) is None


def brick_rows(pair, box, margin):
    """The cells of all bricks in the box and so far around it, each as a row of 0 and 1, and those of the box."""
    room = [range(-margin, side + margin) for side in box]
    cells = list(itertools.product(*room))
    rows = []
    for brick in pair:
        for corner in cells:
            inside = {tuple(low + at for low, at in zip(corner, cell)) for cell in cells_of(brick)}
            if inside <= set(cells):
                rows.append([int(cell in inside) for cell in cells])
    return rows, [int(all(0 <= at < side for at, side in zip(cell, box))) for cell in cells]


def small_cases(count, seed, most=60):
    rng = random.Random(seed)
    for many, longest in ((1, 9), (2, 6), (3, 4), (4, 3)):
        boxes = small_boxes(many, most)
        for _ in range(count):
            yield some_pair(rng, many, longest), rng.choice(boxes)


def great_cases(count, seed):
    """Pairs and great boxes, of which many have a signed filling."""
    rng = random.Random(seed)
    for _ in range(count):
        many = rng.randint(1, 4)
        longest = rng.choice((10, 1000, 10 ** 6))
        pair = some_pair(rng, many, longest)
        box = [math.lcm(a, b) * rng.randint(1, MOST // longest ** 2) for a, b in zip(*pair)]
        for axis in rng.sample(range(many), rng.choice((0, 1, 1, 1, min(2, many)))):
            box[axis] = rng.choice((rng.randint(1, MOST), math.gcd(pair[0][axis], pair[1][axis]) * rng.randint(1, 999),
                                    pair[0][axis] * rng.randint(1, 10 ** 6), pair[1][axis] * rng.randint(1, 10 ** 6)))
        yield pair, tuple(box)


class DocumentTest(unittest.TestCase):
    def test_examples(self):
        self.assertEqual(
            [signed_holds(P, (1, 6), S), signed_holds(P, (1, 6), S[:1]), signed_at(P, S, (0, 5)),
             signed_at(P, S, (2, 2)), is_signed(P, (1, 6)), is_signed(P, (5, 5))],
            [True, False, 1, 0, True, False])
        self.assertEqual(
            [signed_paper_holds(P, (1, 6), signed_paper(P, (1, 6))), signed_paper(P, (1, 6))[0],
             signed_paper_holds(P, (4, 2), signed_paper(P, (4, 2))), signed_paper(P, (4, 2))[0],
             signed_paper(((2, 2), (4, 4)), (3, 4)), signed_holds(P, (4, 2), signed_fill(P, (4, 2))),
             signed_fill(P, (5, 5))],
            [True, "line", True, "all", ('step', 0), True, None])
        self.assertEqual(signed_paper(P, (1, 6)), ('line', 0, 2, -1))
        self.assertEqual(signed_paper(P, (4, 2)), ('all', 0))
        self.assertEqual(
            [signed_paper_holds(P, (5, 5), ("sides", 1, 0)), signed_paper_holds(P, (5, 5), ("sides", 0, 0)),
             signed_paper_holds(P, (1, 6), ("line", 0, -1, 1))],
            [True, False, False])

    def test_by_name(self):
        check_names(self, signed_holds, kinds=P, box=(1, 6), value=S)
        check_names(self, signed_holds, kinds=P, box=(6, 1), value=S)
        check_names(self, signed_at, kinds=P, blocks=S, cell=(0, 5))
        for box in ((1, 6), (5, 5), (4, 2)):
            for function in (is_signed, signed_fill, signed_paper):
                check_names(self, function, pair=P, box=box)
        check_names(self, signed_paper_holds, pair=P, box=(1, 6), value=("line", 0, 2, -1))


class SignedHoldsTest(unittest.TestCase):
    def check(self, kinds, box, value):
        told = call_unchanged(self, signed_holds, kinds, box, value)
        self.assertIs(told, plain_holds(kinds, box, value), (kinds, box, value))
        return told

    def test_known(self):
        ones = ((1,), (2,))
        for kinds, box, value, right in (
            (ones, (3,), ((0, (0,), (3,), 1),), True), (ones, (3,), ((0, (2,), (1,), 1), (1, (0,), (1,), 1)), True),
            (ones, (3,), ((0, (3,), (1,), -1), (1, (0,), (2,), 1)), True),
            (ones, (3,), ((0, (-1,), (1,), -1), (1, (-1,), (2,), 1)), True),
            (ones, (3,), ((0, (3,), (1,), 1), (1, (0,), (2,), 1)), False),
            (ones, (3,), ((0, (0,), (2,), 1),), False), (ones, (3,), ((0, (0,), (3,), -1),), False),
            (ones, (3,), ((0, (0,), (3,), 2),), False), (ones, (3,), (), False), (ones, (1,), (), False),
            (ones, (3,), ((0, (0,), (3,), 3), (0, (0,), (3,), -2)), False),
            (ones, (3,), ((0, (0,), (3,), -2), (0, (0,), (3,), 3)), True),
            (ones, (3,), ((0, (0,), (3,), -1), (0, (0,), (3,), 1), (0, (0,), (3,), 1)), False),
            (ones, (4,), ((1, (0,), (1,), 1), (1, (2,), (1,), 1)), True),
            (ones, (4,), ((1, (2,), (1,), 1), (1, (0,), (1,), 1)), False),
            (((2, 1), (1, 3)), (3, 3), ((0, (0, 0), (1, 3), 1), (1, (2, 0), (1, 1), 1)), True),
            (((2, 1), (1, 3)), (3, 3), ((0, (0, 0), (1, 3), 1), (1, (2, 1), (1, 1), 1)), False),
            (((1,) * 4,), (1, 1, 1, 1), ((0, (0,) * 4, (1,) * 4, 1),), True),
            (((1,) * 4,), (1, 1, 1, 2), ((0, (0,) * 4, (1,) * 4, 1),), False),
        ):
            self.assertIs(signed_holds(kinds, box, value), right, value)
            self.check(kinds, box, value)

    def test_put_in_and_taken_away(self):
        rng = random.Random(1)
        for great in (False, True):
            for _ in range(150):
                kinds, box, value = some_signed(rng, great)
                self.assertIs(self.check(kinds, box, value), True, (kinds, box, value))
                self.check_changed(kinds, box, value, rng)

    def check_changed(self, kinds, box, value, rng):
        """Fails unless it is told that none of these are signed fillings."""
        at = rng.randrange(len(value))
        kind, corner, counts, number = value[at]
        axis = rng.randrange(len(box))
        wrong = [value[:at] + value[at + 1:], value[::-1] if len(value) > 1 else list(value),
                 value[:at] + value[at:at + 1] + value[at:], value[:at] + (list(value[at]),) + value[at + 1:]]
        changed = [(kind, put(corner, axis, corner[axis] + 1), counts, number),
                   (kind, put(corner, axis, corner[axis] - 10 ** 20), counts, number),
                   (kind, corner, put(counts, axis, counts[axis] + 1), number), (kind, corner, counts, number + 7),
                   (kind, corner, counts, -number)]
        wrong += [told_together(put(value, at, block)) for block in changed]
        for other in wrong:
            self.assertIs(signed_holds(kinds, box, other), False, (kinds, box, other))
        for side in (box[axis] + 1, 2 * box[axis], max(1, box[axis] - 1), 1):
            if side != box[axis]:
                self.assertIs(signed_holds(kinds, put(box, axis, side), value), False)

    def test_fillings_told_as_blocks(self):
        rng = random.Random(2)
        for _ in range(300):
            many = rng.randint(1, 4)
            pair = some_pair(rng, many, rng.choice((3, 1000)))
            axis = rng.randrange(many)
            below, above = rng.randint(1, 10 ** 5), rng.randint(1, 10 ** 5)
            box = put(tuple(math.lcm(a, b) * rng.randint(1, 9) for a, b in zip(*pair)), axis,
                      below * pair[0][axis] + above * pair[1][axis])
            counts = [put(tuple(side // length for side, length in zip(box, pair[kind])), axis, layers)
                      for kind, layers in ((0, below), (1, above))]
            corner = put((0,) * many, axis, below * pair[0][axis])
            value = ((0, (0,) * many, counts[0], 1), (1, corner, counts[1], 1))
            self.assertIs(is_filled(pair, box), True)
            self.assertIs(self.check(pair, box, value), True)
            # The kinds must not be taken for one another.
            self.assertIs(signed_holds(pair[::-1], box, value), plain_holds(pair[::-1], box, value))

    def test_one_part_otherwise(self):
        for kinds, box, value in (
            (P, (1, 6), S), (((1,), (2,)), (3,), ((0, (2,), (1,), 1), (1, (0,), (1,), 1))),
            (((1,), (1,)), (1,), ((0, (0,), (1,), -1), (0, (0,), (1,), 1), (1, (0,), (1,), 1))),
            (((1, 1, 1), (1, 1, 2)), (1, 1, 2), ((0, (0, 0, 1), (1, 1, 1), -1), (0, (0, 0, 1), (1, 1, 1), 1),
                                                 (1, (0, 0, 0), (1, 1, 1), 1))),
            (((1, 1, 1, 1),) * 4, (1, 2, 1, 1), ((3, (0, 0, 0, 0), (1, 2, 1, 1), 1),)),
        ):
            self.assertIs(signed_holds(kinds, box, value), True)
            for other in bent(value):
                self.check(kinds, box, other)

    def test_true_and_false(self):
        kinds, box = ((1, 1), (1, 1)), (1, 1)
        value = ((1, (0, 0), (1, 1), 1),)
        self.assertIs(signed_holds(kinds, box, value), True)
        for block in ((True, (0, 0), (1, 1), 1), (1, (False, 0), (1, 1), 1), (1, (0, False), (1, 1), 1),
                      (1, (0, 0), (True, 1), 1), (1, (0, 0), (1, True), 1), (1, (0, 0), (1, 1), True)):
            self.assertIs(signed_holds(kinds, box, (block,)), False)
        self.assertIs(signed_holds(kinds, box, ((False, (0, 0), (1, 1), 1),)), False)
        self.assertIs(signed_holds(kinds, box, ((0, (0, 0), (1, 1), 1),)), True)

    def test_numbers_of_0(self):
        kinds, box = ((1,), (2,)), (2,)
        right = (1, (0,), (1,), 1)
        self.assertIs(signed_holds(kinds, box, (right,)), True)
        for block in ((1, (5,), (1,), 0), (0, (0,), (0,), 1), (0, (0,), (0,), 0), (0, (0,), (-1,), 1),
                      (2, (0,), (1,), 0), (-1, (0,), (1,), 0)):
            for value in ((block, right), (right, block)):
                self.assertIs(signed_holds(kinds, box, value), False)
        # Counts below 0 would make a block that is taken away.
        self.assertIs(signed_holds(kinds, box, ((1, (2,), (-1,), -1),)), False)
        self.assertIs(signed_holds(kinds, box, ((0, (0,), (0,), 5), right)), False)
        for many, axis in ((many, axis) for many in (2, 3, 4) for axis in range(many)):
            ones, zero = (1,) * many, (0,) * many
            self.assertIs(signed_holds((ones,), ones, ((0, zero, ones, 1),)), True)
            for count, corner, number in ((-1, put(zero, axis, 1), -1), (0, zero, 1), (-1, zero, 1)):
                block = (0, corner, put(ones, axis, count), number)
                for value in ((block,), (block, (0, zero, ones, 1)), ((0, zero, ones, 1), block)):
                    self.assertIs(signed_holds((ones,), ones, value), False, value)

    def test_values_of_any_kind(self):
        block = (0, (0, 0), (1, 1), 1)
        for value in ANY_VALUES + NO_INTEGERS:
            for other in (value, (value,), (block, value), (value, block), (block + (value,),), (block[:3] + (value,),),
                          ((value,) + block[1:],), ((0, value, (1, 1), 1),), ((0, (0, 0), value, 1),),
                          ((0, (value, 0), (1, 1), 1),), ((0, (0, 0), (1, value), 1),), [block], block, [list(block)]):
                told = call_unchanged(self, signed_holds, ((1, 1), (2, 2)), (1, 1), other)
                self.assertIs(told, plain_holds(((1, 1), (2, 2)), (1, 1), other), repr_deep(other))

    def test_great_numbers(self):
        for many in (1, 2, 3, 4):
            box = (MOST,) * many
            for far in (10 ** 12, 10 ** 40, 10 ** 5000):
                zero = (0,) * many
                behind = put(zero, many - 1, MOST)
                value = ((0, zero, put(box, many - 1, MOST + far), 1), (0, behind, put(box, many - 1, far), -1))
                self.assertIs(call_quick(self, signed_holds, ((1,) * many,), box, value), True)
                self.assertIs(signed_holds(((1,) * many,), box, value[:1]), False)
                wrong = (value[0], (0, behind, put(box, many - 1, far + 1), -1))
                self.assertIs(call_quick(self, signed_holds, ((1,) * many,), box, wrong), False)
            self.assertIs(call_quick(self, signed_holds, (box,), box, ((0, zero, (1,) * many, 1),)), True)

    def test_many_blocks(self):
        rng = random.Random(3)
        for many, count in ((1, 300), (2, 220), (3, 180), (4, 150), (4, 2000)):
            ones = (1,) * many
            kinds, box = (ones, (2,) * many), (MOST,) * many
            blocks = [(0, (0,) * many, box, 1)]
            while len(blocks) < count:
                corner = tuple(rng.randint(-MOST, MOST) for _ in range(many))
                counts = tuple(rng.randint(1, MOST) for _ in range(many))
                blocks += [(1, corner, counts, 1), (0, corner, tuple(2 * number for number in counts), -1)]
            value = told_together(blocks)
            self.assertIs(call_quick(self, signed_holds, kinds, box, value), True)
            self.assertIs(call_quick(self, signed_holds, kinds, box, value[1:]), False)
            self.assertIs(call_quick(self, signed_holds, kinds, box, value[:-1]), False)
            self.assertIs(call_quick(self, signed_holds, kinds, box, value * 2), False)


class SignedAtTest(unittest.TestCase):
    def test_against_each_block(self):
        rng = random.Random(4)
        for great in (False, True):
            for _ in range(100):
                kinds, box, blocks = some_signed(rng, great)
                self.check_cells(kinds, box, blocks, rng)

    def check_cells(self, kinds, box, blocks, rng):
        blocks = list(blocks)
        rng.shuffle(blocks)
        blocks = tuple(blocks[:rng.randint(0, len(blocks))])
        for _ in range(10):
            cell = tuple(rng.randint(-3, side + 3) for side in box)
            told = call_unchanged(self, signed_at, kinds, blocks, cell)
            self.assertEqual(repr_deep(told), repr_deep(counted_at(kinds, blocks, cell)))

    def test_at_both_ends(self):
        for many in (1, 2, 3, 4):
            kinds = ((5,) * many, (2, 3, 4, 5)[:many])
            for corner in ((0,) * many, (-7,) * many, (10 ** 30, -10 ** 30, 1, 0)[:many]):
                counts = (1, 10 ** 13, 2, 3)[:many]
                blocks = ((1, corner, counts, 4), (1, corner, counts, -1))
                last = tuple(low + side * count - 1 for low, side, count in zip(corner, kinds[1], counts))
                self.assertEqual(call_quick(self, signed_at, kinds, blocks, corner), 3)
                self.assertEqual(signed_at(kinds, blocks, last), 3)
                self.assertEqual(signed_at(kinds, blocks[:1], last), 4)
                for axis in range(many):
                    self.assertEqual(signed_at(kinds, blocks, put(corner, axis, corner[axis] - 1)), 0)
                    self.assertEqual(signed_at(kinds, blocks, put(last, axis, last[axis] + 1)), 0)
                    self.assertEqual(signed_at(kinds, blocks, put(corner, axis, last[axis])), 3)

    def test_no_block(self):
        self.assertEqual(repr_deep(signed_at(((1,),), (), (0,))), repr_deep(0))
        self.assertEqual(signed_at(P, (), (-10 ** 40, 10 ** 40)), 0)

    def test_any_order(self):
        for blocks in itertools.permutations(S + ((0, (-1, -1), (1, 1), 5), (0, (-1, -1), (1, 1), 5))):
            told = [signed_at(P, blocks, cell) for cell in ((0, 0), (-1, 0), (1, 5), (0, 6), (-2, 0))]
            self.assertEqual(told, [11, 10, 0, 0, 0])

    def test_signed_fillings_cell_by_cell(self):
        for pair, box in small_cases(60, seed=5, most=12):
            told = signed_fill(pair, box)
            if told is not None:
                for cell in itertools.product(*[range(-4, side + 12) for side in box[:2]]):
                    cell = cell + (0,) * (len(box) - len(cell))
                    inside = all(0 <= at < side for at, side in zip(cell, box))
                    self.assertEqual(signed_at(pair, told, cell), int(inside))


class IsSignedTest(unittest.TestCase):
    def check(self, pair, box):
        """Checks is_signed, signed_fill and signed_paper against the papers that there are by what they are."""
        fills = len(plain_fills(pair, box)) > 0
        self.assertIs(fills, not plain_bars(pair, box), (pair, box))
        self.assertIs(call_unchanged(self, is_signed, pair, box), fills, (pair, box))
        told = call_unchanged(self, signed_fill, pair, box)
        self.assertEqual(told is not None, fills)
        if told is not None:
            self.assertIn(len(told), (1, 2))
            self.assertIs(plain_holds(pair, box, told), True, (pair, box, told))
            self.assertIs(signed_holds(pair, box, told), True)
        paper = call_unchanged(self, signed_paper, pair, box)
        self.assertIn(repr_deep(paper), [repr_deep(one) for one in plain_fills(pair, box) + plain_bars(pair, box)])
        self.assertIs(signed_paper_holds(pair, box, paper), True)
        self.assertEqual(paper[0] in ("all", "line"), fills)

    def test_small_boxes(self):
        for pair, box in small_cases(500, seed=6):
            self.check(pair, box)

    def test_along_one_axis(self):
        for a, b, side in itertools.product(range(1, 13), range(1, 13), range(1, 31)):
            self.check(((a,), (b,)), (side,))
            self.assertIs(is_signed(((a,), (b,)), (side,)), side % math.gcd(a, b) == 0)

    def test_plain_look(self):
        # Whether the box is a sum of bricks in it and around it, put in or taken away, by plain reckoning.
        for a, b, side in itertools.product(range(1, 6), range(1, 6), range(1, 8)):
            rows, target = brick_rows(((a,), (b,)), (side,), 12)
            self.assertIs(is_signed(((a,), (b,)), (side,)), in_span(rows, target), (a, b, side))
        for pair in (P, ((2, 1), (1, 2)), ((2, 2), (1, 3)), ((1, 2), (3, 1)), ((3, 2), (2, 3))):
            for box in itertools.product((1, 2, 3, 4), repeat=2):
                rows, target = brick_rows(pair, box, 3)
                self.assertIs(is_signed(pair, box), in_span(rows, target), (pair, box))

    def test_great_boxes(self):
        told = set()
        for pair, box in great_cases(400, seed=7):
            bars = plain_bars(pair, box)
            told.add(call_quick(self, is_signed, pair, box))
            self.assertIs(is_signed(pair, box), not bars, (pair, box))
            self.check_great(pair, box, not bars)
        self.assertEqual(told, {True, False})

    def check_great(self, pair, box, fills):
        value = call_quick(self, signed_fill, pair, box)
        self.assertEqual(value is not None, fills)
        self.assertTrue(value is None or len(value) < 3 and plain_holds(pair, box, value), (pair, box, value))
        self.assertTrue(value is None or signed_holds(pair, box, value))
        paper = call_quick(self, signed_paper, pair, box)
        self.assertIs(call_quick(self, signed_paper_holds, pair, box, paper), True)
        self.assertEqual(paper[0] in ("all", "line"), fills)
        for bar in plain_bars(pair, box):
            self.assertIs(signed_paper_holds(pair, box, bar), True)

    def test_known_great_boxes(self):
        for pair, box, right in (
            (((MOST,), (MOST - 1,)), (1,), True), (((MOST,), (MOST - 2,)), (1,), False),
            (((MOST,), (MOST - 2,)), (2,), True), (((MOST, 1), (1, MOST)), (MOST - 1, MOST - 1), False),
            (((MOST, 1), (1, MOST)), (MOST - 1, MOST), True), (((MOST, 1), (1, MOST)), (MOST, 1), True),
            (((MOST, MOST), (MOST - 1, MOST)), (7, MOST), True),
            (((MOST, MOST), (MOST - 1, 2)), (7, MOST), True),
            (((MOST, MOST), (MOST - 1, 3)), (7, MOST), False),
        ):
            self.assertIs(call_quick(self, is_signed, pair, box), right, (pair, box))
            self.check_great(pair, box, right)

    def test_what_is_filled_is_signed(self):
        filled = 0
        for pair, box in itertools.chain(small_cases(400, seed=8), great_cases(300, seed=9)):
            if is_filled(pair, box):
                filled += 1
                self.assertIs(is_signed(pair, box), True)
                self.assertIs(signed_holds(pair, box, signed_fill(pair, box)), True)
                self.assertIs(signed_holds(pair, box, self.cut_blocks(pair, box)), True)
        self.assertGreater(filled, 100)

    def cut_blocks(self, pair, box):
        """The blocks that the first cut tells."""
        first, axis, at = cut_at(pair, box, 0)
        parts = ((first, put(box, axis, at), 0), (1 - first, put(box, axis, box[axis] - at), at))
        return tuple(sorted((kind, put((0,) * len(box), axis, start),
                             tuple(side // length for side, length in zip(sides, pair[kind])), 1)
                            for kind, sides, start in parts if sides[axis]))


class SignedPaperHoldsTest(unittest.TestCase):
    def check(self, pair, box, value, right):
        told = call_unchanged(self, signed_paper_holds, pair, box, value)
        self.assertIs(told, repr_deep(value) in right, (pair, box, repr_deep(value)))

    def all_right(self, pair, box):
        return plain_fills(pair, box) + plain_bars(pair, box)

    def test_all_right_ones(self):
        words = set()
        for pair, box in small_cases(500, seed=10):
            for value in self.all_right(pair, box):
                words.add(value[0])
                self.assertIs(call_unchanged(self, signed_paper_holds, pair, box, value), True, (pair, box, value))
        self.assertEqual(words, {"all", "line", "sides", "step"})

    def test_one_part_otherwise(self):
        for pair, box in itertools.chain(small_cases(8, seed=11), ((P, (1, 6)), (P, (6, 6)), (P, (5, 5)))):
            right = self.all_right(pair, box)
            known = {repr_deep(value) for value in right}
            for value in right[:3] + right[-3:]:
                for other in bent(value):
                    self.check(pair, box, other, known)

    def test_all_near(self):
        for pair, box in itertools.chain(small_cases(6, seed=12), ((P, (1, 6)), (P, (6, 6)), (P, (5, 5)))):
            known = {repr_deep(value) for value in self.all_right(pair, box)}
            numbers = range(-2, len(box) + 2)
            for word in ("all", "line", "sides", "step", "cut", "gap", "All", "", None):
                for length in range(3):
                    for rest in itertools.product(numbers, repeat=length):
                        self.check(pair, box, (word,) + rest, known)

    def test_all_lines_near(self):
        for a, b, side in ((2, 3, 1), (3, 2, 1), (4, 6, 2), (4, 6, 8), (5, 5, 5), (1, 4, 7), (4, 1, 7), (3, 5, 7)):
            for rest in ((), (15,)):
                pair, box = ((a,) + rest[:1], (b,) + rest[:1]), (side,) + rest
                known = {repr_deep(value) for value in self.all_right(pair, box)}
                self.assertIn("line", [value[0] for value in plain_fills(pair, box)])
                for x, y in itertools.product(range(-9, 10), repeat=2):
                    self.check(pair, box, ("line", 0, x, y), known)
                    self.check(pair, box, ("line", -1, x, y), known)
                    self.check(pair, box, ("line", 1, x, y), known)

    def test_x_beyond_its_bounds(self):
        for pair, box in great_cases(300, seed=13):
            paper = signed_paper(pair, box)
            if paper[0] == "line":
                _, axis, x, y = paper
                a, b = pair[0][axis], pair[1][axis]
                step = math.gcd(a, b)
                for times in (-2, -1, 1, 2):
                    other = ("line", axis, x + times * (b // step), y - times * (a // step))
                    self.assertEqual(other[2] * a + other[3] * b, box[axis])
                    self.assertIs(signed_paper_holds(pair, box, other), False)
                self.assertIs(signed_paper_holds(pair, box, ("line", axis, x, y + 1)), False)

    def test_lines_that_are_not_told(self):
        # A box that one kind fills has also a paper of the other sort.
        for pair, box, value in (
            (P, (6, 6), ("line", 0, 0, 2)), (P, (6, 6), ("line", 1, 0, 2)), (P, (6, 6), ("all", 0)),
            (P, (6, 6), ("all", 1)), (((1,), (1,)), (5,), ("line", 0, 0, 5)), (((4,), (1,)), (5,), ("line", 0, 0, 5)),
            (((1,), (4,)), (5,), ("line", 0, 1, 1)), (((1,), (4,)), (4,), ("line", 0, 0, 1)),
            (((MOST, 6), (MOST - 1, 4)), (1, 12), ("line", 0, 1, -1)),
        ):
            self.assertIs(signed_paper_holds(pair, box, value), True, (pair, box, value))
        self.assertIs(signed_paper_holds(((MOST, 6), (MOST - 1, 4)), (1, 18), ("line", 0, 1, -1)), False)
        self.assertIs(signed_paper_holds(((MOST, 6), (MOST - 1, 4)), (1, 16), ("line", 0, 1, -1)), False)

    def test_true_and_false(self):
        for pair, box, value in ((P, (1, 6), ("line", 0, 2, -1)), (P, (5, 6), ("line", 0, 1, 1)),
                                 (P, (4, 2), ("all", 0)), (P, (9, 3), ("all", 1)),
                                 (P, (5, 5), ("sides", 0, 1)), (P, (5, 5), ("sides", 1, 0)),
                                 (((2, 2), (4, 4)), (3, 4), ("step", 0)), (((2, 2), (4, 4)), (4, 3), ("step", 1))):
            self.assertIs(signed_paper_holds(pair, box, value), True)
            for at, item in enumerate(value):
                if item in (0, 1):
                    self.assertIs(signed_paper_holds(pair, box, put(value, at, bool(item))), False)

    def test_values_of_any_kind(self):
        for pair, box in ((P, (1, 6)), (P, (5, 5)), (((1,), (1,)), (1,)), (((2,), (4,)), (3,))):
            for value in ANY_VALUES + NO_INTEGERS:
                self.assertIs(call_unchanged(self, signed_paper_holds, pair, box, value), False)
                for word in () if is_integer(value) else ("all", "line", "sides", "step"):
                    for other in ((word, value), (word, value, 0), (word, 0, value), (word, 0, value, 1)):
                        self.assertIs(call_unchanged(self, signed_paper_holds, pair, box, other), False)

    def test_papers_of_both_sorts(self):
        for pair, box in small_cases(300, seed=14):
            self.assertFalse(plain_fills(pair, box) and plain_bars(pair, box))


if __name__ == "__main__":
    unittest.main()
