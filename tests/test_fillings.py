"""A3, B1: placed bricks, fillings, seams."""

import itertools
import math
import random
import unittest

from tests.values import (
    ANY_VALUES, MOST, NO_INTEGERS, bent, brick_cells, call_quick, call_unchanged, cells_of, check_names, check_raises,
    is_integer, is_plainly_filled, plain_fillings, plain_places, put, random_filling, repr_deep, small_boxes,
)
from twobricks.errors import NoSeam, Unfit
from twobricks.fillings import (
    counts_in, covered, fill, filling_error, halves, joined, lies_in, line_in, mirrored, places, seams,
)
from twobricks.papers import is_filled

PAIR = ((2, 1), (1, 3))
MIXED = ((0, (0, 0)), (0, (0, 1)), (0, (0, 2)), (1, (2, 0)))

# Bricks around one in the middle, without a seam.
WHEEL_KINDS = ((3, 2), (2, 3), (1, 1))
WHEEL = ((0, (0, 0)), (0, (2, 3)), (1, (0, 2)), (1, (3, 0)), (2, (2, 2)))

# Kinds with unit bricks, by dimension, the last two alike.
UNITS_AND_MORE = {
    1: ((1,), (2,), (3,), (3,)),
    2: ((1, 1), (2, 1), (1, 3), (1, 3)),
    3: ((1, 1, 1), (2, 1, 1), (1, 2, 2), (1, 2, 2)),
    4: ((1, 1, 1, 1), (2, 1, 1, 2), (1, 2, 1, 1), (1, 2, 1, 1)),
}

# Boxes of 400 cells or close to that many.
GREAT_BOXES = ((400,), (20, 20), (1, 400), (133, 3), (8, 5, 10), (7, 7, 8), (4, 5, 4, 5), (1, 400, 1, 1))


def some_fillings():
    """Triples of kinds, a box and a filling of it, small ones and great ones."""
    yield PAIR, (3, 3), MIXED
    yield WHEEL_KINDS, (5, 5), WHEEL
    yield ((2, 1), (2, 1)), (2, 1), ((1, (0, 0)),)
    rng = random.Random(1)
    for many, kinds in UNITS_AND_MORE.items():
        for box in rng.sample(small_boxes(many, 24), 12):
            yield kinds, box, random_filling(kinds, box, rng)
    for box in GREAT_BOXES:
        kinds = UNITS_AND_MORE[len(box)]
        yield kinds, box, random_filling(kinds, box, rng)


def is_placed(kinds, box, value):
    """Whether value is a placed brick that lies in the box, by what it looks like."""
    bricks = {repr_deep(placed) for placed in plain_places(kinds, box)}
    return repr_deep(value) in bricks


def plain_error(kinds, box, value):
    """What filling_error must tell."""
    if value.__class__ is not tuple:
        return (None, "filling")
    for index, item in enumerate(value):
        before = value[:index]
        if not is_placed(kinds, box, item):
            return (index, "brick")
        if before and not before[-1] < item:
            return (index, "order")
        if set(brick_cells(kinds, item)) & {cell for one in before for cell in brick_cells(kinds, one)}:
            return (index, "overlap")
    open_cells = set(cells_of(box)) - {cell for one in value for cell in brick_cells(kinds, one)}
    return (min(open_cells), "open") if open_cells else None


def plain_seams(kinds, box, filling):
    found = []
    for axis, side in enumerate(box):
        for at in range(1, side):
            crossing = [placed for placed in filling
                        if len({cell[axis] < at for cell in brick_cells(kinds, placed)}) == 2]
            if not crossing:
                found.append((axis, at))
    return tuple(found)


def cells_by_kind(kinds, filling):
    """The bricks of the filling as sets of cells, with their kinds, in no order."""
    return {(kind, frozenset(brick_cells(kinds, (kind, corner)))) for kind, corner in filling}


def shifted(bricks, axis, number):
    """What cells_by_kind gave, with number(k) in the place of each cell's number k along the axis."""
    return {(kind, frozenset(put(cell, axis, number(cell[axis])) for cell in cells)) for kind, cells in bricks}


class DocumentTest(unittest.TestCase):
    def test_placed(self):
        pair = ((2, 1), (1, 3))
        self.assertEqual(
            [covered(pair, (0, (1, 4))), lies_in(pair, (2, 3), (0, (1, 0))), lies_in(pair, (2, 3), (1, (1, 0)))],
            [((1, 4), (2, 4)), False, True])
        self.assertEqual(places(pair, (2, 3)), ((0, (0, 0)), (0, (0, 1)), (0, (0, 2)), (1, (0, 0)), (1, (1, 0))))

    def test_fillings(self):
        pair = ((2, 1), (1, 3))
        mixed = ((0, (0, 0)), (0, (0, 1)), (0, (0, 2)), (1, (2, 0)))
        self.assertEqual(
            [filling_error(pair, (3, 3), mixed), counts_in(pair, mixed), line_in(pair, (3, 3), mixed, 0, (0, 1)),
             line_in(pair, (3, 3), mixed, 1, (0, 1)), line_in(pair, (3, 3), mixed, 1, (2, 2))],
            [None, (3, 1), (0, 1), (0, 0, 0), (1,)])
        self.assertEqual(
            [filling_error(pair, (3, 3), mixed[:3]), filling_error(pair, (3, 3), mixed[:2] + mixed[:1]),
             filling_error(pair, (3, 3), mixed[:1] + ((1, (0, 0)),)), filling_error(pair, (2, 3), mixed),
             filling_error(pair, (3, 3), [])],
            [((2, 0), 'open'), (2, 'order'), (1, 'overlap'), (3, 'brick'), (None, 'filling')])

    def test_fill(self):
        self.assertEqual(
            [fill(((2, 1), (1, 3)), (2, 2)), fill(((2, 1), (1, 3)), (1, 4)), fill(((2, 2), (3, 3)), (5, 5))],
            [((0, (0, 0)), (0, (0, 1))), None, None])

    def test_seams(self):
        pair = ((2, 1), (1, 3))
        mixed = ((0, (0, 0)), (0, (0, 1)), (0, (0, 2)), (1, (2, 0)))
        self.assertEqual(
            [seams(pair, (3, 3), mixed), mirrored(pair, (3, 3), mixed, 0)],
            [((0, 2),), ((0, (1, 0)), (0, (1, 1)), (0, (1, 2)), (1, (0, 0)))])
        self.assertEqual(
            halves(pair, (3, 3), mixed, 0, 2),
            (((2, 3), ((0, (0, 0)), (0, (0, 1)), (0, (0, 2)))), ((1, 3), ((1, (0, 0)),))))
        self.assertEqual(
            joined(pair, (1, 3), ((1, (0, 0)),), (1, 3), ((1, (0, 0)),), 0),
            ((2, 3), ((1, (0, 0)), (1, (1, 0)))))
        with self.assertRaises(NoSeam) as held:
            halves(((2, 1), (1, 3)), (2, 1), ((0, (0, 0)),), 0, 1)
        self.assertEqual((held.exception.axis, held.exception.at), (0, 1))

    def test_by_name(self):
        check_names(self, covered, kinds=PAIR, placed=(0, (1, 4)))
        check_names(self, lies_in, kinds=PAIR, box=(2, 3), value=(1, (1, 0)))
        check_names(self, places, kinds=PAIR, box=(2, 3))
        check_names(self, filling_error, kinds=PAIR, box=(2, 3), value=MIXED)
        check_names(self, counts_in, kinds=PAIR, filling=MIXED)
        check_names(self, line_in, kinds=PAIR, box=(3, 3), filling=MIXED, axis=0, cell=(0, 1))
        check_names(self, fill, pair=PAIR, box=(2, 2))
        check_names(self, seams, kinds=PAIR, box=(3, 3), filling=MIXED)
        check_names(self, halves, kinds=PAIR, box=(3, 3), filling=MIXED, axis=0, at=2)
        check_names(self, mirrored, kinds=PAIR, box=(3, 3), filling=MIXED, axis=0)
        check_names(self, joined, kinds=PAIR, box=(3, 3), filling=MIXED, other_box=(1, 3), other=((1, (0, 0)),),
                    axis=0)


class PlacedTest(unittest.TestCase):
    def test_covered(self):
        rng = random.Random(2)
        for many in (1, 2, 3, 4):
            for box in rng.sample(small_boxes(many, 60), 60) + [sides for sides in GREAT_BOXES if len(sides) == many]:
                kinds = (box, (MOST,) * many, box[::-1])
                for corner in ((0,) * many, tuple(rng.randint(0, 9) for _ in box), (MOST,) * many, (MOST - 1,) * many):
                    for kind in (0, 2):
                        told = call_unchanged(self, covered, kinds, (kind, corner))
                        self.assertEqual(repr_deep(told), repr_deep(tuple(brick_cells(kinds, (kind, corner)))))

    def test_lies_in(self):
        for many, box in ((1, (4,)), (2, (3, 4)), (3, (2, 3, 1)), (4, (2, 1, 2, 2))):
            kinds = UNITS_AND_MORE[many][:3] + ((MOST,) * many,)
            right = set(plain_places(kinds, box))
            for kind in range(-1, 5):
                for corner in itertools.product(range(-2, 6), repeat=many):
                    told = lies_in(kinds, box, (kind, corner))
                    self.assertIs(told, (kind, corner) in right, (kinds, box, kind, corner))

    def test_lies_in_with_other_parts(self):
        for many, box in ((1, (4,)), (2, (3, 4)), (3, (2, 3, 1)), (4, (2, 1, 2, 2))):
            kinds = UNITS_AND_MORE[many]
            right = {repr_deep(placed) for placed in plain_places(kinds, box)}
            for placed in plain_places(kinds, box):
                self.assertIs(call_unchanged(self, lies_in, kinds, box, placed), True)
                for value in bent(placed):
                    self.assertIs(call_unchanged(self, lies_in, kinds, box, value), repr_deep(value) in right, value)

    def test_lies_in_of_any_kind(self):
        for kinds, box in ((PAIR, (3, 3)), (((1,),), (1,)), (((1, 1, 1, 1),) * 4, (2, 2, 2, 2))):
            corner = (0,) * len(box)
            for value in ANY_VALUES + NO_INTEGERS:
                self.assertIs(call_unchanged(self, lies_in, kinds, box, value), False)
                self.assertIs(call_unchanged(self, lies_in, kinds, box, (0, value)), value == corner)
                self.assertIs(call_unchanged(self, lies_in, kinds, box, (0, corner, value)), False)
                if not is_integer(value):
                    self.assertIs(call_unchanged(self, lies_in, kinds, box, (value, corner)), False)
                    for axis in range(len(box)):
                        self.assertIs(call_unchanged(self, lies_in, kinds, box, (0, put(corner, axis, value))), False)

    def test_places(self):
        rng = random.Random(3)
        for many in (1, 2, 3, 4):
            for box in rng.sample(small_boxes(many, 40), 30):
                bricks = [tuple(rng.randint(1, 3) for _ in box) for _ in range(3)]
                for kinds in ((bricks[0],), tuple(bricks), (bricks[0], bricks[1], bricks[0], (MOST,) * many)):
                    told = call_unchanged(self, places, kinds, box)
                    self.assertEqual(repr_deep(told), repr_deep(plain_places(kinds, box)))
                    self.assertEqual(list(told), sorted(set(told)))

    def test_places_in_great_boxes(self):
        for box in GREAT_BOXES:
            for kinds in (UNITS_AND_MORE[len(box)], (box, box), tuple((tuple((side + 1) // 2 for side in box),) * 4)):
                self.assertEqual(call_quick(self, places, kinds, box), plain_places(kinds, box))
            self.assertEqual(places(((MOST,) * len(box), put(box, 0, box[0] + 1)), box), ())


class FillingErrorTest(unittest.TestCase):
    def check(self, kinds, box, value):
        told = call_unchanged(self, filling_error, kinds, box, value)
        self.assertEqual(repr_deep(told), repr_deep(plain_error(kinds, box, value)), (kinds, box, value))
        return told

    def test_no_error(self):
        for kinds, box, filling in some_fillings():
            self.assertIsNone(call_unchanged(self, filling_error, kinds, box, filling))

    def test_all_fillings_of_small_boxes(self):
        for many, box in ((1, (6,)), (2, (2, 3)), (3, (2, 2, 2)), (4, (2, 2, 1, 2))):
            kinds = UNITS_AND_MORE[many]
            for filling in itertools.islice(plain_fillings(kinds, box), 200):
                self.assertIsNone(filling_error(kinds, box, filling))
                self.check(kinds, box, filling[1:])
                self.check(kinds, box, filling[:-1])
                self.check(kinds, put(box, 0, box[0] + 1), filling)
                self.check(kinds, put(box, many - 1, box[-1] - 1) if box[-1] > 1 else box, filling)

    def test_one_part_otherwise(self):
        for kinds, box, filling in (
            (PAIR, (3, 3), MIXED),
            (((1,), (2,), (2,)), (4,), ((0, (0,)), (0, (3,)), (2, (1,)))),
            (((1, 1, 2), (2, 1, 1)), (2, 1, 2), ((0, (0, 0, 0)), (0, (1, 0, 0)))),
            (((1, 1, 1, 2),), (1, 1, 1, 2), ((0, (0, 0, 0, 0)),)),
        ):
            found = {self.check(kinds, box, value) for value in bent(filling)}
            self.assertIn((None, "filling"), found)
            self.assertIn((0, "brick"), found)

    def test_two_parts_otherwise(self):
        rng = random.Random(4)
        once = list(bent(MIXED))
        for value in rng.sample(once, 60):
            if isinstance(value, tuple):
                for other in rng.sample(list(bent(value)), 40):
                    self.check(PAIR, (3, 3), other)

    def test_tuples_of_right_bricks(self):
        words = set()
        for many, box in ((1, (3,)), (2, (2, 2)), (3, (1, 2, 2)), (4, (1, 2, 1, 2))):
            kinds = UNITS_AND_MORE[many][:3]
            bricks = plain_places(kinds, box)
            for length in range(4):
                for value in itertools.product(bricks, repeat=length):
                    error = self.check(kinds, box, value)
                    words.add(error and error[1])
        self.assertEqual(words, {None, "order", "overlap", "open"})

    def test_each_alone(self):
        kinds, box = ((1, 2), (2, 1)), (2, 2)
        right = ((0, (0, 0)), (0, (1, 0)))
        self.assertIsNone(filling_error(kinds, box, right))
        for value, error in (
            (list(right), (None, "filling")), (None, (None, "filling")), ({}, (None, "filling")),
            ((right[0], list(right[1])), (1, "brick")), ((right[0], (0, [1, 0])), (1, "brick")),
            ((right[0], (False, (1, 0))), (1, "brick")), ((right[0], (0, (True, 0))), (1, "brick")),
            ((right[0], (0, (1, False))), (1, "brick")), ((right[0], (0, (1, 1))), (1, "brick")),
            ((right[0], (0, (1, -1))), (1, "brick")), ((right[0], (0, (1, 10 ** 30))), (1, "brick")),
            ((right[0], (0, (-10 ** 30, 0))), (1, "brick")), ((right[0], (0, (1,))), (1, "brick")),
            ((right[0], (0, (1, 0, 0))), (1, "brick")), ((right[0], (2, (1, 0))), (1, "brick")),
            ((right[0], (-1, (1, 0))), (1, "brick")), ((right[0], (0, (1, 0), 0)), (1, "brick")),
            ((right[0], (0,)), (1, "brick")), ((right[0], ()), (1, "brick")), ((right[0], None), (1, "brick")),
            (right[::-1], (1, "order")), ((right[0], right[0]), (1, "order")),
            ((right[0], (1, (0, 0))), (1, "overlap")), ((right[1], (1, (0, 1))), (1, "overlap")),
            (right[:1], ((1, 0), "open")), (right[1:], ((0, 0), "open")), ((), ((0, 0), "open")),
            (((1, (0, 0)),), ((0, 1), "open")),
        ):
            self.assertEqual(self.check(kinds, box, value), error)

    def test_the_first_one_of_several(self):
        kinds, box = ((1, 2), (2, 1)), (2, 2)
        one, two, side = (0, (0, 0)), (0, (1, 0)), (1, (0, 0))
        for value, error in (
            ((two, one, None), (1, "order")), ((one, None, one), (1, "brick")), ((one, side, one), (1, "overlap")),
            ((one, one, 0), (1, "order")), ((side, one), (1, "order")), ((side, (0, (0, 1))), (1, "brick")),
            ((one, side, side), (1, "overlap")), (("x", "y"), (0, "brick")), ([None], (None, "filling")),
            ((one, two, (1, (0, 2))), (2, "brick")), ((one, two, one), (2, "order")),
            ((one, two, side), (2, "overlap")),
        ):
            self.assertEqual(self.check(kinds, box, value), error)

    def test_values_of_any_kind(self):
        for value in ANY_VALUES + NO_INTEGERS:
            for other in (value, (value,), MIXED + (value,), (value,) + MIXED, (MIXED[0], value), (0, value)):
                told = call_unchanged(self, filling_error, PAIR, (3, 3), other)
                self.assertEqual(repr_deep(told), repr_deep(plain_error(PAIR, (3, 3), other)))

    def test_great_boxes(self):
        for box in GREAT_BOXES:
            kinds = UNITS_AND_MORE[len(box)]
            filling = random_filling(kinds, box, random.Random(5))
            last = max(index for index, placed in enumerate(filling) if placed[0] == 0)
            self.assertIsNone(call_quick(self, filling_error, kinds, box, filling))
            self.assertEqual(filling_error(kinds, box, filling[:last] + filling[last + 1:]), (filling[last][1], "open"))
            self.assertEqual(filling_error(kinds, box, filling + filling), (len(filling), "order"))
            self.assertEqual(filling_error(kinds, box, filling * 1000), (len(filling), "order"))
            self.assertEqual(filling_error(kinds, box, filling + (None,) * 5000), (len(filling), "brick"))


class LinesTest(unittest.TestCase):
    def plain_line(self, kinds, box, filling, axis, cell):
        """The kinds that are met, found cell by cell."""
        brick_at = {one: placed for placed in filling for one in brick_cells(kinds, placed)}
        met = [brick_at[put(cell, axis, number)] for number in range(box[axis])]
        return tuple(kind for (kind, _), _ in itertools.groupby(met))

    def test_counts_in(self):
        for kinds, box, filling in some_fillings():
            counts = tuple(sum(kind == placed[0] for placed in filling) for kind in range(len(kinds)))
            self.assertEqual(repr_deep(call_unchanged(self, counts_in, kinds, filling)), repr_deep(counts))
        self.assertEqual(counts_in(((1,), (2,), (2,), (3,)), ((1, (0,)),)), (0, 1, 0, 0))

    def test_line_in(self):
        rng = random.Random(6)
        for kinds, box, filling in some_fillings():
            cells = cells_of(box)
            for cell in cells if len(cells) < 25 else rng.sample(cells, 8):
                for axis in range(len(box)):
                    told = call_unchanged(self, line_in, kinds, box, filling, axis, cell)
                    expected = self.plain_line(kinds, box, filling, axis, cell)
                    self.assertEqual(repr_deep(told), repr_deep(expected))

    def test_around_a_brick(self):
        self.assertEqual([line_in(WHEEL_KINDS, (5, 5), WHEEL, 0, (k, k)) for k in range(5)],
                         [(0, 1), (0, 1), (1, 2, 1), (1, 0), (1, 0)])
        self.assertEqual([line_in(WHEEL_KINDS, (5, 5), WHEEL, 1, (k, k)) for k in range(5)],
                         [(0, 1), (0, 1), (0, 2, 0), (1, 0), (1, 0)])


class FillTest(unittest.TestCase):
    def check(self, pair, box):
        told = call_unchanged(self, fill, pair, box)
        if told is None:
            self.assertIs(is_filled(pair, box), False, (pair, box))
        else:
            self.assertIs(is_filled(pair, box), True, (pair, box))
            self.assertIs(told.__class__, tuple)
            self.assertIsNone(filling_error(pair, box, told), (pair, box, told))
        return told

    def test_small_boxes(self):
        rng = random.Random(7)
        for many, most, boxes in ((1, 9, 30), (2, 5, 110), (3, 3, 200), (4, 3, 200)):
            bricks = list(itertools.product(range(1, most + 1), repeat=many))
            every = small_boxes(many, 30)
            for box in every if len(every) <= boxes else rng.sample(every, boxes):
                for _ in range(60):
                    self.check((rng.choice(bricks), rng.choice(bricks)), box)
                for brick in rng.sample(bricks, 4):
                    self.check((brick, brick), box)

    def test_against_laying(self):
        for a, b, side in itertools.product(range(1, 7), range(1, 7), range(1, 21)):
            pair = ((a,), (b,))
            self.assertEqual(self.check(pair, (side,)) is not None, is_plainly_filled(pair, (side,)))

    def test_each_kind_first_and_each_axis(self):
        for many in (1, 2, 3, 4):
            for axis in range(many):
                twos, threes = put((1,) * many, axis, 2), put((2,) * many, axis, 3)
                box = put((2,) * many, axis, 5)
                for pair in ((twos, threes), (threes, twos)):
                    told = self.check(pair, box)
                    self.assertEqual({kind for kind, _ in told}, {0, 1})

    def test_great_boxes(self):
        for box in GREAT_BOXES:
            many = len(box)
            ones = (1,) * many
            for pair in ((ones, ones), (ones, box), (box, box), (box, (MOST,) * many), ((MOST,) * many, ones),
                         (tuple(min(side, 2) for side in box), tuple(min(side, 5) for side in box)),
                         ((MOST,) * many, (MOST,) * many)):
                self.check(pair, box)
                call_quick(self, fill, pair, box)
        self.assertEqual(len(fill(((1,) * 4, (1,) * 4), (4, 5, 4, 5))), 400)
        self.assertEqual(sorted(kind for kind, _ in fill(((2, 2), (3, 3)), (5, 78))), [0] * 39 + [1] * 26)


class SeamsTest(unittest.TestCase):
    def test_seams(self):
        for kinds, box, filling in some_fillings():
            told = call_unchanged(self, seams, kinds, box, filling)
            self.assertEqual(repr_deep(told), repr_deep(plain_seams(kinds, box, filling)), (kinds, box, filling))
        self.assertEqual(seams(WHEEL_KINDS, (5, 5), WHEEL), ())

    def test_seams_of_many_bricks(self):
        for box in GREAT_BOXES:
            filling = tuple((0, cell) for cell in cells_of(box))
            expected = tuple((axis, at) for axis, side in enumerate(box) for at in range(1, side))
            self.assertEqual(call_quick(self, seams, ((1,) * len(box),), box, filling), expected)
            self.assertEqual(seams((box,), box, ((0, (0,) * len(box)),)), ())

    def test_halves_along_each_seam(self):
        for kinds, box, filling in some_fillings():
            every = plain_seams(kinds, box, filling)
            for axis, at in every if len(every) < 20 else every[::len(every) // 10]:
                told = call_unchanged(self, halves, kinds, box, filling, axis, at)
                self.check_halves(told, kinds, box, filling, axis, at)

    def check_halves(self, told, kinds, box, filling, axis, at):
        below = {brick for brick in cells_by_kind(kinds, filling) if all(cell[axis] < at for cell in brick[1])}
        above = shifted(cells_by_kind(kinds, filling) - below, axis, lambda number: number - at)
        self.assertEqual(repr_deep([box for box, _ in told]),
                         repr_deep([put(box, axis, at), put(box, axis, box[axis] - at)]))
        self.assertIs(told.__class__, tuple)
        for (part_box, part), bricks in zip(told, (below, above)):
            self.assertEqual(cells_by_kind(kinds, part), bricks)
            self.assertIsNone(filling_error(kinds, part_box, part))
        self.assertEqual(joined(kinds, *told[0], *told[1], axis), (box, filling))

    def test_no_seams(self):
        for kinds, box, filling in some_fillings():
            if math.prod(box) > 30:
                continue
            right = plain_seams(kinds, box, filling)
            for axis, at in itertools.product(range(-2, len(box) + 1), range(-1, max(box) + 2)):
                if (axis, at) not in right:
                    check_raises(self, NoSeam, {"axis": axis, "at": at}, halves, kinds, box, filling, axis, at)

    def test_no_seams_of_any_kind(self):
        bricks = tuple((0, cell) for cell in cells_of((3, 3)))
        for value in ANY_VALUES + NO_INTEGERS + (3, -3, 10 ** 30):
            for axis, at in ((value, 1), (0, value), (value, value), (value, [value]), ((value,), 2)):
                if not (is_integer(axis) and is_integer(at) and 0 <= axis < 2 and 0 < at < 3):
                    check_raises(self, NoSeam, {"axis": axis, "at": at}, halves, ((1, 1),), (3, 3), bricks, axis, at)
        for axis, at in ((True, 1), (False, 1), (0, True), (1, True), (False, True), (-1, 1), (-2, 2), (0, -1)):
            check_raises(self, NoSeam, {"axis": axis, "at": at}, halves, ((1, 1),), (3, 3), bricks, axis, at)
        self.assertEqual(halves(((1, 1),), (3, 3), bricks, 1, 1)[0][0], (3, 1))


class JoinedTest(unittest.TestCase):
    def check_joined(self, kinds, box, filling, other_box, other, axis):
        told = call_unchanged(self, joined, kinds, box, filling, other_box, other, axis)
        whole = put(box, axis, box[axis] + other_box[axis])
        self.assertEqual(repr_deep(told[0]), repr_deep(whole))
        self.assertIs(told.__class__, tuple)
        self.assertEqual(len(told), 2)
        self.assertIsNone(filling_error(kinds, whole, told[1]))
        behind = shifted(cells_by_kind(kinds, other), axis, lambda number: number + box[axis])
        self.assertEqual(cells_by_kind(kinds, told[1]), cells_by_kind(kinds, filling) | behind)
        self.assertEqual(halves(kinds, whole, told[1], axis, box[axis]), ((box, filling), (other_box, other)))

    def test_that_fit(self):
        rng = random.Random(8)
        for kinds, box, filling in some_fillings():
            for axis in range(len(box)):
                self.check_joined(kinds, box, filling, box, filling, axis)
                if kinds[0] == (1,) * len(box):
                    for side in (1, 3):
                        other_box = put(box, axis, side)
                        other = random_filling(kinds, other_box, rng)
                        self.check_joined(kinds, box, filling, other_box, other, axis)
                        self.check_joined(kinds, other_box, other, box, filling, axis)

    def test_beyond_the_bound(self):
        for box in GREAT_BOXES:
            filling = tuple((0, cell) for cell in cells_of(box))
            for axis in range(len(box)):
                whole, bricks = call_quick(self, joined, ((1,) * len(box),), box, filling, box, filling, axis)
                self.assertEqual(whole, put(box, axis, 2 * box[axis]))
                self.assertEqual(bricks, tuple((0, cell) for cell in cells_of(whole)))

    def test_that_do_not_fit(self):
        for many in (2, 3, 4):
            kinds = UNITS_AND_MORE[many]
            box = (3, 2, 2, 1)[:many]
            filling = random_filling(kinds, box, random.Random(9))
            for axis, other_axis in itertools.permutations(range(many), 2):
                for by in (-1, 1):
                    other_box = put(put(box, other_axis, max(box[other_axis] + by, 1)), axis, 5)
                    other = random_filling(kinds, other_box, random.Random(9))
                    if other_box[other_axis] != box[other_axis]:
                        check_raises(self, Unfit, {}, joined, kinds, box, filling, other_box, other, axis)
                        check_raises(self, Unfit, {}, joined, kinds, other_box, other, box, filling, axis)
                    else:
                        self.check_joined(kinds, box, filling, other_box, other, axis)

    def test_mirrored(self):
        for kinds, box, filling in some_fillings():
            for axis, side in enumerate(box):
                told = call_unchanged(self, mirrored, kinds, box, filling, axis)
                self.assertIsNone(filling_error(kinds, box, told))
                expected = shifted(cells_by_kind(kinds, filling), axis, lambda number: side - 1 - number)
                self.assertEqual(cells_by_kind(kinds, told), expected)
                self.assertEqual(repr_deep(mirrored(kinds, box, told, axis)), repr_deep(filling))


if __name__ == "__main__":
    unittest.main()
