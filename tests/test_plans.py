"""A2, A3, P1, P2, P3, P4: plans, and boxes that planes alone cut down to bricks."""

import itertools
import math
import random
import unittest

from tests.values import (
    ANY_VALUES, MOST, NO_INTEGERS, NO_TUPLES, bent, call_quick, call_unchanged, check_names, is_integer,
    plain_fillings, put, random_filling, repr_deep, small_boxes, some_pair,
)
from twobricks.fillings import counts_in, filling_error
from twobricks.papers import is_filled
from twobricks.plans import (
    box_of, bricks_of, chop, chopped, fewest_bricks, filling_of, plan_error, plan_for, plan_of,
)

P = ((2, 2), (3, 3))
R = ((0,), (1, 0, 0), (1, 1, 0), (1,), (1, 3, 3), (0, 2, 4))
WHEEL_KINDS = ((3, 2), (2, 3), (1, 1))
WHEEL = ((0, (0, 0)), (0, (2, 3)), (1, (0, 2)), (1, (3, 0)), (2, (2, 2)))

# Boxes of 400 cells or close to that many.
GREAT_BOXES = ((400,), (399,), (20, 20), (19, 21), (1, 400), (133, 3), (8, 5, 10), (7, 7, 8), (4, 5, 4, 5),
               (1, 20, 4, 5))


def is_plain_row(kinds, index, value):
    """Whether value has the form of a row with this index."""
    if value.__class__ is not tuple or not all(map(is_integer, value)):
        return False
    if len(value) == 1:
        return value[0] in range(len(kinds))
    return (len(value) == 3 and value[0] in range(len(kinds[0])) and value[1] in range(index)
            and value[2] in range(index))


def plain_error(kinds, value):
    """What plan_error must tell."""
    if value.__class__ is not tuple or not 1 <= len(value) <= 1000:
        return (None, "plan")
    boxes = []
    for index, row in enumerate(value):
        if not is_plain_row(kinds, index, row):
            return (index, "row")
        if len(row) == 1:
            boxes.append(kinds[row[0]])
            continue
        axis, i, j = row
        if any(boxes[i][k] != boxes[j][k] for k in range(len(kinds[0])) if k != axis):
            return (index, "sides")
        if boxes[i][axis] + boxes[j][axis] > MOST:
            return (index, "great")
        boxes.append(put(boxes[i], axis, boxes[i][axis] + boxes[j][axis]))
    return None


def told_by(kinds, plan, index=None):
    """The box, the numbers of bricks and the filling (as a list) of a row, told one by one."""
    row = plan[-1 if index is None else index]
    if len(row) == 1:
        counts = tuple(int(kind == row[0]) for kind in range(len(kinds)))
        return kinds[row[0]], counts, [(row[0], (0,) * len(kinds[0]))]
    axis, i, j = row
    one, other = told_by(kinds, plan, i), told_by(kinds, plan, j)
    moved = [(kind, put(corner, axis, corner[axis] + one[0][axis])) for kind, corner in other[2]]
    counts = tuple(a + b for a, b in zip(one[1], other[1]))
    return put(one[0], axis, one[0][axis] + other[0][axis]), counts, one[2] + moved


def random_plan(kinds, rng, length, most=400):
    """A plan with about so many rows, whose last row uses earlier ones; no box has more cells than most."""
    plan, boxes = [], []
    for _ in range(length):
        kind, axis = rng.randrange(len(kinds)), rng.randrange(len(kinds[0]))
        fitting = [(i, j) for i, one in enumerate(boxes) for j, other in enumerate(boxes)
                   if all(one[k] == other[k] for k in range(len(one)) if k != axis)
                   and math.prod(one) + math.prod(other) <= most and one[axis] + other[axis] <= MOST]
        if fitting and rng.random() < 0.7:
            i, j = rng.choice(fitting)
            plan.append((axis, i, j))
            boxes.append(put(boxes[i], axis, boxes[i][axis] + boxes[j][axis]))
        else:
            plan.append((kind,))
            boxes.append(kinds[kind])
    return tuple(plan)


def some_kinds(rng, many, longest, count):
    return tuple(tuple(rng.randint(1, longest) for _ in range(many)) for _ in range(count))


def is_cut_apart(kinds, box, filling):
    """Whether planes alone cut the filling down to its bricks, by trying each plane."""
    if len(filling) == 1:
        return True
    for axis, side in enumerate(box):
        for at in range(1, side):
            below = [placed for placed in filling if placed[1][axis] + kinds[placed[0]][axis] <= at]
            above = [placed for placed in filling if placed[1][axis] >= at]
            if len(below) + len(above) == len(filling):
                moved = [(kind, put(corner, axis, corner[axis] - at)) for kind, corner in above]
                return (is_cut_apart(kinds, put(box, axis, at), below)
                        and is_cut_apart(kinds, put(box, axis, side - at), moved))
    return False


def plain_fewest(kinds, box):
    """The least number of bricks of which planes put the box together, by going through all smaller ones; None."""
    fewest = {}
    for sides in itertools.product(*[range(1, side + 1) for side in box]):
        found = [fewest[put(sides, axis, at)] + fewest[put(sides, axis, side - at)]
                 for axis, side in enumerate(sides) for at in range(1, side)]
        fewest[sides] = 1 if sides in kinds else min(found, default=math.inf)
    return None if fewest[box] == math.inf else fewest[box]


class DocumentTest(unittest.TestCase):
    def test_examples(self):
        self.assertEqual(
            [plan_error(P, R), box_of(P, R), bricks_of(P, R), filling_of(P, R)],
            [None, (5, 6), (3, 2), ((0, (0, 0)), (0, (0, 2)), (0, (0, 4)), (1, (2, 0)), (1, (2, 3)))])
        self.assertEqual(
            [plan_error(P, ()), plan_error(P, ((0,), (0, 0, 1))), plan_error(P, ((0,), (1,), (1, 0, 1))),
             plan_error(P, ((2,),))],
            [(None, 'plan'), (1, 'row'), (2, 'sides'), (0, 'row')])
        self.assertEqual(
            [box_of(P, plan_for(P, (5, 6))), bricks_of(P, plan_for(P, (2000, 2))), plan_for(P, (5, 5)),
             filling_of(P, plan_of(P, (5, 6), filling_of(P, R))) == filling_of(P, R)],
            [(5, 6), (1000, 0), None, True])
        self.assertEqual(
            [chopped(P, (5, 6)), chop(P, (5, 5)), fewest_bricks(P, (6, 6))[0],
             fewest_bricks(((1, 1), (2, 2), (3, 3)), (4, 5))[0], fewest_bricks(((2, 2),), (3, 2))],
            [True, None, 4, 6, None])
        W = ((0, (0, 0)), (0, (2, 3)), (1, (0, 2)), (1, (3, 0)), (2, (2, 2)))
        self.assertEqual(
            [plan_of(((3, 2), (2, 3), (1, 1)), (5, 5), W), chopped(((3, 2), (2, 3), (1, 1)), (5, 5))],
            [None, True])

    def test_by_name(self):
        check_names(self, plan_error, kinds=P, value=R)
        check_names(self, plan_error, kinds=P, value=R[:1] + ((1, 0, 1),))
        for function in (box_of, bricks_of, filling_of):
            check_names(self, function, kinds=P, plan=R)
        for box in ((5, 6), (5, 5)):
            check_names(self, plan_for, pair=P, box=box)
            for function in (chopped, chop, fewest_bricks):
                check_names(self, function, kinds=P, box=box)
        check_names(self, plan_of, kinds=P, box=(5, 6), filling=filling_of(P, R))
        check_names(self, plan_of, kinds=WHEEL_KINDS, box=(5, 5), filling=WHEEL)


class PlanErrorTest(unittest.TestCase):
    def check(self, kinds, value):
        told = call_unchanged(self, plan_error, kinds, value)
        self.assertEqual(repr_deep(told), repr_deep(plain_error(kinds, value)), (kinds, value))
        return told

    def test_right(self):
        rng = random.Random(1)
        for _ in range(150):
            kinds = some_kinds(rng, rng.randint(1, 4), rng.choice((2, 3, MOST // 8)), rng.randint(1, 4))
            plan = random_plan(kinds, rng, rng.randint(1, 12), most=MOST ** 4)
            self.assertIsNone(self.check(kinds, plan))

    def test_each_row_otherwise(self):
        rng = random.Random(2)
        words = set()
        rows = [row for length in (1, 3) for row in itertools.product(range(-1, 5), repeat=length)]
        for many in (1, 2, 3, 4):
            kinds = some_kinds(rng, many, 2, 3)
            plan = random_plan(kinds, rng, 4)
            for at in range(4):
                for row in rows:
                    told = self.check(kinds, put(plan, at, row))
                    words.add(told and told[1])
        self.assertEqual(words, {None, "row", "sides"})

    def test_one_part_otherwise(self):
        for kinds, plan in ((P, R), (P, ((0,), (1,), (1, 1, 1), (0, 2, 2))), (((1,), (2,)), ((1,), (0, 0, 0))),
                            (((1, 1, 1, 1),) * 2, ((0,), (1,), (1, 0, 1), (3, 1, 0)))):
            self.assertIsNone(plan_error(kinds, plan))
            for value in bent(plan):
                self.check(kinds, value)

    def test_true_and_false(self):
        kinds = ((1, 1), (1, 1))
        for plan in (((True,),), ((False,),), ((0,), (True, 0, 0)), ((0,), (False, 0, 0)), ((0,), (0, False, 0)),
                     ((0,), (0, 0, False)), ((0,), (1,), (0, True, 0)), ((0,), (1,), (0, 0, True))):
            self.assertEqual(plan_error(kinds, plan), (len(plan) - 1, "row"))
            self.assertIsNone(plan_error(kinds, plan[:-1] + (tuple(map(int, plan[-1])),)))

    def test_indexes_of_rows_that_are_not_earlier(self):
        kinds = ((1, 1), (1, 1))
        right = ((0,), (1,), (0, 0, 1), (1,))
        self.assertIsNone(plan_error(kinds, right))
        for at, row in ((2, (0, 2, 0)), (2, (0, 0, 2)), (2, (0, 3, 0)), (2, (0, 0, 3)), (0, (0, 0, 0)), (1, (0, 1, 0)),
                        (1, (0, 0, 1)), (2, (0, -1, 0)), (2, (0, 0, -1)), (2, (2, 0, 1)), (2, (-1, 0, 1)), (2, (2,)),
                        (2, (-1,)), (2, ()), (2, (0, 0)), (2, (0, 0, 1, 0)), (0, (0, 10 ** 30, 0))):
            self.assertEqual(self.check(kinds, put(right, at, row)), (at, "row"), row)

    def test_unlike_sides(self):
        kinds = ((2, 3, 4), (2, 3, 5), (2, 5, 4), (7, 3, 4))
        for axis, i, j in itertools.product(range(3), range(4), range(4)):
            unlike = [k for k in range(3) if kinds[i][k] != kinds[j][k]]
            expected = None if unlike in ([], [axis]) else (4, "sides")
            self.assertEqual(self.check(kinds, ((0,), (1,), (2,), (3,), (axis, i, j))), expected)

    def test_great_sides(self):
        half = MOST // 2
        for many in (1, 2, 3, 4):
            for axis in range(many):
                kinds = (put((1,) * many, axis, half), put((1,) * many, axis, half + 1), put((1,) * many, axis, MOST))
                double = ((0,), (axis, 0, 0))
                self.assertIsNone(self.check(kinds, double))
                self.assertEqual(self.check(kinds, ((1,), (axis, 0, 0))), (1, "great"))
                self.assertEqual(self.check(kinds, ((0,), (1,), (axis, 0, 1))), (2, "great"))
                self.assertEqual(self.check(kinds, ((0,), (1,), (axis, 1, 0))), (2, "great"))
                self.assertEqual(self.check(kinds, ((2,), (axis, 0, 0))), (1, "great"))
                self.assertEqual(self.check(kinds, double + ((axis, 1, 1),)), (2, "great"))
                self.assertEqual(self.check(kinds, double + ((axis, 0, 1),)), (2, "great"))
                other = (axis + 1) % many
                if other != axis:
                    self.assertIsNone(self.check(kinds, ((2,),) + tuple((other, k, k) for k in range(39))))
                    self.assertEqual(self.check(kinds, ((2,),) + tuple((other, k, k) for k in range(40))),
                                     (40, "great"))
                    # Unlike sides are told ahead of great ones.
                    self.assertEqual(self.check(kinds, ((0,), (2,), (other, 0, 1))), (2, "sides"))
                    self.assertEqual(self.check(kinds, ((2,), (other, 0, 0), (axis, 0, 1))), (2, "sides"))

    def test_the_first_one_of_several(self):
        kinds = ((1, 1), (1, 2), (MOST, 1))
        sides, great, row = (0, 0, 1), (0, 2, 2), (0, 0, 9)
        start = ((0,), (1,), (2,))
        for word, wrong in (("sides", sides), ("great", great), ("row", row)):
            self.assertEqual(self.check(kinds, start + (wrong,)), (3, word))
            for later in (sides, great, row, None, [], "x", (0,)):
                self.assertEqual(self.check(kinds, start + (wrong, later, later)), (3, word))
                self.assertEqual(self.check(kinds, start + ((0,), wrong, later)), (4, word))

    def test_how_many_rows(self):
        for length in (1, 2, 999, 1000):
            self.assertIsNone(call_quick(self, plan_error, P, ((0,),) * length))
            self.assertEqual(plan_error(P, ((0,),) * (length - 1) + ((2,),)), (length - 1, "row"))
        for value in ((), ((0,),) * 1001, ((2,),) * 1001, (None,) * 2000, ((0,),) * 5000):
            self.assertEqual(self.check(P, value), (None, "plan"))
        chain = ((0,),) + tuple((0, index, 0) for index in range(999))
        self.assertIsNone(call_quick(self, plan_error, ((1,),), chain))
        self.assertEqual(call_quick(self, box_of, ((1,),), chain), (1000,))

    def test_values_of_any_kind(self):
        for value in ANY_VALUES + NO_INTEGERS:
            for other in (value, (value,), R[:3] + (value,), ((value,),), ((0,), (value, 0, 0)), ((0,), (0, value, 0)),
                          ((0,), (0, 0, value)), ((0,), (0, 0, 0, value)), ((0, value),)):
                self.check(P, other)
        for value in NO_TUPLES:
            self.assertEqual(plan_error(P, value), (None, "plan"))
        self.assertEqual(plan_error(P, list(R)), (None, "plan"))
        self.assertEqual(plan_error(P, (list(R[0]),)), (0, "row"))


class OfPlansTest(unittest.TestCase):
    def check(self, kinds, plan):
        box, counts, filling = told_by(kinds, plan)
        self.assertIsNone(plan_error(kinds, plan))
        self.assertEqual(repr_deep(call_unchanged(self, box_of, kinds, plan)), repr_deep(box))
        self.assertEqual(repr_deep(call_unchanged(self, bricks_of, kinds, plan)), repr_deep(counts))
        told = call_unchanged(self, filling_of, kinds, plan)
        self.assertEqual(repr_deep(told), repr_deep(tuple(sorted(filling))), (kinds, plan))
        self.assertIsNone(filling_error(kinds, box, told))

    def test_random_plans(self):
        rng = random.Random(3)
        for _ in range(250):
            kinds = some_kinds(rng, rng.randint(1, 4), rng.choice((1, 2, 3)), rng.randint(1, 4))
            self.check(kinds, random_plan(kinds, rng, rng.randint(1, 14)))

    def test_rows_used_often_and_not_at_all(self):
        for kinds, plan in (
            (P, ((0,), (1,), (0,))), (P, ((1,), (0,), (1, 0, 0))), (P, ((0,), (0, 0, 0), (1, 1, 1), (0,))),
            (P, ((0,), (0, 0, 0), (0, 1, 1), (0, 2, 2), (1, 3, 3))),
            (((1, 1), (1, 1)), ((0,), (1,), (0, 0, 1), (0, 1, 0), (1, 2, 3), (1, 4, 3), (1, 2, 5))),
            (((1,), (2,), (3,), (2,)), ((3,), (1,), (0, 0, 1), (0, 1, 0), (2,), (0, 3, 2))),
        ):
            self.check(kinds, plan)

    def test_order_of_both_rows(self):
        kinds = ((1, 1, 1), (2, 1, 1), (1, 2, 1), (1, 1, 2))
        for axis in range(3):
            one, other = ((0,), (axis + 1,), (axis, 0, 1)), ((0,), (axis + 1,), (axis, 1, 0))
            self.check(kinds, one)
            self.check(kinds, other)
            corner = put((0, 0, 0), axis, 1)
            self.assertEqual(filling_of(kinds, one), ((0, (0, 0, 0)), (axis + 1, corner)))
            self.assertEqual(filling_of(kinds, other), ((0, put((0, 0, 0), axis, 2)), (axis + 1, (0, 0, 0))))

    def test_doubled_boxes(self):
        for many in (1, 2, 3, 4):
            kinds = ((1,) * many, (1,) * many)
            plan = ((0,), (1,), (0, 0, 1))
            for axis in range(many):
                plan += tuple((axis, len(plan) - 1 + at, len(plan) - 1 + at) for at in range(38))
            box = (2 ** 39,) + (2 ** 38,) * (many - 1)
            self.assertIsNone(call_quick(self, plan_error, kinds, plan))
            self.assertEqual(repr_deep(call_quick(self, box_of, kinds, plan)), repr_deep(box))
            half = math.prod(box) // 2
            self.assertEqual(repr_deep(call_quick(self, bricks_of, kinds, plan)), repr_deep((half, half)))
            # The last row does not use the great ones.
            small = plan + ((0, 1, 0), (0, len(plan), 1))
            self.assertEqual(box_of(kinds, small), (3,) + (1,) * (many - 1))
            self.assertEqual(bricks_of(kinds, small), (1, 2))
            told = call_quick(self, filling_of, kinds, small)
            zero = (0,) * many
            self.assertEqual(told, ((0, put(zero, 0, 1)), (1, zero), (1, put(zero, 0, 2))))

    def test_great_fillings(self):
        for box in GREAT_BOXES:
            many = len(box)
            kinds = ((1,) * many, (2,) * many)
            plan = ((0,),)
            for axis, side in enumerate(box):
                once = len(plan) - 1
                plan += tuple((axis, len(plan) - 1 + at, once) for at in range(side - 1))
            self.assertEqual(call_quick(self, box_of, kinds, plan), box)
            told = call_quick(self, filling_of, kinds, plan)
            self.assertEqual(len(told), math.prod(box))
            self.assertIsNone(filling_error(kinds, box, told))
            self.assertEqual(bricks_of(kinds, plan), (math.prod(box), 0))

    def test_longest_plans(self):
        # As many rows as there may be, each on top of the one before it.
        chain = ((0,),) + tuple((0, index, 0) for index in range(398)) + ((1,),) * 600 + ((0, 398, 0),)
        kinds = ((1,), (3,))
        self.assertIsNone(plan_error(kinds, chain))
        self.assertEqual(call_quick(self, filling_of, kinds, chain), tuple((0, (at,)) for at in range(400)))
        self.assertEqual(call_quick(self, bricks_of, kinds, chain), (400, 0))


class PlanForTest(unittest.TestCase):
    def check(self, pair, box):
        told = call_quick(self, plan_for, pair, box)
        self.assertEqual(repr_deep(call_unchanged(self, plan_for, pair, box)), repr_deep(told))
        self.assertEqual(told is not None, is_filled(pair, box), (pair, box))
        if told is not None:
            self.assertIsNone(plan_error(pair, told), (pair, box))
            self.assertIsNone(plain_error(pair, told))
            self.assertEqual(box_of(pair, told), box)
            counts = bricks_of(pair, told)
            self.assertEqual(sum(count * math.prod(brick) for count, brick in zip(counts, pair)), math.prod(box))
            if math.prod(box) <= 400:
                self.assertIsNone(filling_error(pair, box, filling_of(pair, told)))
        return told

    def test_small_boxes(self):
        rng = random.Random(4)
        found = set()
        for many, longest in ((1, 8), (2, 5), (3, 4), (4, 3)):
            for box in rng.sample(small_boxes(many, 400), 120):
                for _ in range(5):
                    found.add(self.check(some_pair(rng, many, longest), box) is None)
        self.assertEqual(found, {True, False})

    def test_each_kind_and_each_axis(self):
        for many in (1, 2, 3, 4):
            for axis in range(many):
                twos, threes = put((1,) * many, axis, 2), put((2,) * many, axis, 3)
                for box in (put((2,) * many, axis, 5), put((2,) * many, axis, 7), put((1,) * many, axis, 2),
                            put((2,) * many, axis, 3), put((MOST,) * many, axis, MOST - 1)):
                    self.assertIsNotNone(self.check((twos, threes), box))
                    self.assertIsNotNone(self.check((threes, twos), box))

    def test_great_boxes(self):
        rng = random.Random(5)
        for _ in range(150):
            many, kind = rng.randint(1, 4), rng.randint(0, 1)
            pair = some_pair(rng, many, rng.choice((2, 30, 1000)))
            box = tuple(math.lcm(a, b) * rng.randint(1, MOST // 10 ** 6) for a, b in zip(*pair))
            axis = rng.randrange(many)
            at, rest = (rng.choice((0, 1, rng.randint(1, 10 ** 8))) * pair[k][axis] for k in (kind, 1 - kind))
            self.assertIsNotNone(self.check(pair, put(box, axis, at + rest or box[axis])))
            self.check(pair, put(box, axis, rng.randint(1, MOST)))

    def test_the_greatest_boxes(self):
        for many in (1, 2, 3, 4):
            for side in (MOST, MOST - 1, 2 ** 39 - 1, 2 ** 39, 2 ** 39 + 1, 2 ** 38 - 1):
                ones = (1,) * many
                for pair in ((ones, ones), (ones, (2,) * many), ((MOST,) * many, ones),
                             (put(ones, 0, 2), put(ones, 0, 3)), (put(ones, many - 1, 5), put(ones, many - 1, 7)),
                             (put(ones, 0, MOST - 2), put(ones, 0, 1))):
                    self.assertIsNotNone(self.check(pair, (side,) * many))
            self.assertIsNone(self.check(((2,) * many, (4,) * many), (MOST - 1,) * many))
        # Both parts have as many rows as there may be for great numbers with all digits 1.
        least, most = 2 ** 38 - 1, 2 ** 39 - 1
        self.assertIsNotNone(self.check(((1, 1, 1, 1), (1, 1, 1, 1)), (most,) * 4))
        self.assertIsNotNone(self.check(((2, 1, 1, 1), (3, 1, 1, 1)), (most, most, most, most)))
        self.assertIsNotNone(self.check(((MOST - 1, 1, 1, 1), (1, 1, 1, 1)), (MOST, least, most, most)))


class PlanOfTest(unittest.TestCase):
    def check(self, kinds, box, filling):
        told = call_quick(self, plan_of, kinds, box, filling)
        self.assertEqual(told is not None, is_cut_apart(kinds, box, filling), (kinds, box, filling))
        if told is not None:
            self.assertIsNone(plan_error(kinds, told), told)
            self.assertEqual(box_of(kinds, told), box)
            self.assertEqual(repr_deep(filling_of(kinds, told)), repr_deep(filling))
            self.assertEqual(bricks_of(kinds, told), counts_in(kinds, filling))
        return told

    def test_all_fillings_of_small_boxes(self):
        found = set()
        for kinds, box in (
            (((1,), (2,)), (6,)), (((1, 1), (2, 1), (1, 2)), (3, 3)), (((2, 1), (1, 2)), (4, 4)),
            (((3, 2), (2, 3), (1, 1)), (5, 5)), (((2, 1), (1, 2)), (5, 6)),
            (((1, 1, 1), (2, 1, 1), (1, 2, 1)), (2, 2, 2)), (((1, 1, 2), (1, 2, 1), (2, 1, 1)), (2, 2, 3)),
            (((1, 1, 2), (1, 2, 1), (2, 1, 1), (1, 1, 1)), (3, 3, 2)),
            (((1, 1, 1, 2), (1, 1, 2, 1), (2, 1, 1, 1)), (2, 1, 2, 2)),
        ):
            for filling in itertools.islice(plain_fillings(kinds, box), 250):
                found.add(self.check(kinds, box, filling) is None)
        self.assertEqual(found, {True, False})

    def test_plans_there_and_back(self):
        rng = random.Random(6)
        for _ in range(200):
            kinds = some_kinds(rng, rng.randint(1, 4), rng.choice((1, 2, 3)), rng.randint(1, 4))
            plan = random_plan(kinds, rng, rng.randint(1, 14))
            box, filling = box_of(kinds, plan), filling_of(kinds, plan)
            self.assertIsNotNone(self.check(kinds, box, filling))
            self.assertEqual(repr_deep(call_unchanged(self, plan_of, kinds, box, filling)),
                             repr_deep(plan_of(kinds, box, filling)))

    def test_wheels(self):
        self.assertIsNone(call_unchanged(self, plan_of, WHEEL_KINDS, (5, 5), WHEEL))
        kinds = WHEEL_KINDS + ((5, 1),)
        # Beside a part that planes cut apart, at the first and at the last place, and another one of its kind.
        behind = tuple((kind, (row, column + 1)) for kind, (row, column) in WHEEL)
        two = tuple((kind, (row, column + 5)) for kind, (row, column) in WHEEL)
        for box, filling in (((5, 6), WHEEL + ((3, (0, 5)),)), ((5, 6), tuple(sorted(behind + ((3, (0, 0)),)))),
                             ((5, 10), tuple(sorted(WHEEL + two)))):
            self.assertIsNone(filling_error(kinds, box, filling))
            self.assertIsNone(self.check(kinds, box, filling))
        spun = tuple(sorted((1 - kind if kind < 2 else 2, (column, row)) for kind, (row, column) in WHEEL))
        self.assertIsNone(self.check(WHEEL_KINDS, (5, 5), spun))
        # Along a third axis it is cut into layers, but these are not cut apart.
        flat = tuple((kind, corner + (0,)) for kind, corner in WHEEL)
        above = tuple((kind, corner[:2] + (1,)) for kind, corner in flat)
        kinds = tuple(brick + (1,) for brick in WHEEL_KINDS)
        self.assertIsNone(self.check(kinds, (5, 5, 2), tuple(sorted(flat + above))))

    def test_a_single_brick(self):
        for many in (1, 2, 3, 4):
            kinds = ((1,) * many, (3,) * many, (2, 3, 4, 5)[:many], (3,) * many)
            for kind in range(4):
                self.assertIsNotNone(self.check(kinds, kinds[kind], ((kind, (0,) * many),)))

    def test_great_boxes(self):
        rng = random.Random(7)
        for box in GREAT_BOXES:
            many = len(box)
            ones = (1,) * many
            whole = tuple((0, cell) for cell in itertools.product(*[range(side) for side in box]))
            self.assertIsNotNone(self.check((ones,), box, whole))
            kinds = (ones, put(ones, many - 1, 2), put(ones, 0, 2))
            self.check(kinds, box, random_filling(kinds, box, rng))

    def test_strips_around_strips(self):
        # Each plane cuts one strip off only, along each axis by turns.
        kinds = ((1, 1), (1, 2), (2, 1), (3, 1))
        corner, sides, filling = [0, 0], [20, 20], []
        while min(sides) > 0:
            for axis in (0, 1):
                for at in range(sides[1 - axis]):
                    cell = put(tuple(corner), 1 - axis, corner[1 - axis] + at)
                    filling.append((0, cell))
                corner[axis] += 1
                sides[axis] -= 1
        self.assertIsNotNone(self.check(kinds, (20, 20), tuple(sorted(filling))))


class ChoppedTest(unittest.TestCase):
    def check(self, kinds, box):
        expected = plain_fewest(kinds, box)
        self.assertIs(call_unchanged(self, chopped, kinds, box), expected is not None, (kinds, box))
        told = call_unchanged(self, chop, kinds, box)
        self.assertEqual(told is not None, expected is not None)
        if told is not None:
            self.check_plan(kinds, box, told)
        fewest = call_unchanged(self, fewest_bricks, kinds, box)
        self.assertEqual(fewest is not None, expected is not None)
        if fewest is not None:
            self.assertIs(fewest.__class__, tuple)
            number, plan = fewest
            self.assertEqual(repr_deep(number), repr_deep(expected), (kinds, box))
            self.check_plan(kinds, box, plan)
            self.assertEqual(sum(bricks_of(kinds, plan)), number)
        return expected

    def check_plan(self, kinds, box, plan):
        self.assertIsNone(plan_error(kinds, plan), (kinds, box, plan))
        self.assertIsNone(plain_error(kinds, plan))
        self.assertEqual(box_of(kinds, plan), box)
        self.assertIsNone(filling_error(kinds, box, filling_of(kinds, plan)))

    def test_small_boxes(self):
        rng = random.Random(8)
        found = set()
        for many, longest, count in ((1, 6, 120), (2, 4, 200), (3, 3, 120), (4, 2, 80)):
            boxes = small_boxes(many, 40)
            for _ in range(count):
                kinds = some_kinds(rng, many, longest, rng.randint(1, 4))
                found.add(self.check(kinds, rng.choice(boxes)))
        self.assertLessEqual({None, 1, 2, 3, 4, 5, 6}, found)

    def test_coins(self):
        # With the greatest one first there would be more than needed.
        for kinds, side, number in ((((1,), (3,), (4,)), 6, 2), (((1,), (5,), (8,), (10,)), 16, 2),
                                    (((1,), (5,), (8,), (10,)), 13, 2), (((4,), (6,), (9,)), 23, 4),
                                    (((4,), (6,), (9,)), 11, None), (((7,), (5,)), 23, None), (((7,), (5,)), 24, 4),
                                    (((2,),), 7, None), (((3,),), 9, 3), (((1,), (399,)), 400, 2)):
            self.assertEqual(self.check(kinds, (side,)), number)

    def test_boxes_that_are_filled_and_not_chopped(self):
        # Around a brick in the middle, with nothing else to take its place.
        kinds = ((3, 2), (2, 3), (1, 1))
        self.assertEqual(self.check(kinds, (5, 5)), plain_fewest(kinds, (5, 5)))
        large = ((5, 4), (4, 5), (1, 1))
        self.assertIs(chopped(large, (9, 9)), True)
        self.assertGreater(self.check(large, (9, 9)), 5)
        wheel = ((7, 5), (5, 7), (2, 2))
        filling = ((0, (0, 0)), (0, (5, 7)), (1, (0, 5)), (1, (7, 0)), (2, (5, 5)))
        self.assertIsNone(filling_error(wheel, (12, 12), filling))
        expected = plain_fewest(wheel, (12, 12))
        self.assertEqual(self.check(wheel, (12, 12)), expected)
        odd = ((7, 4), (4, 7), (3, 3))
        filling = ((0, (0, 0)), (0, (4, 7)), (1, (0, 4)), (1, (7, 0)), (2, (4, 4)))
        self.assertIsNone(filling_error(odd, (11, 11), filling))
        self.assertIs(chopped(odd, (11, 11)), False)
        self.assertIsNone(chop(odd, (11, 11)))
        self.assertIsNone(fewest_bricks(odd, (11, 11)))
        self.assertIsNone(self.check(odd, (11, 11)))

    def test_two_kinds(self):
        rng = random.Random(9)
        for many, longest in ((1, 9), (2, 6), (3, 4), (4, 3)):
            for box in rng.sample(small_boxes(many, 60), 50):
                for _ in range(4):
                    pair = some_pair(rng, many, longest)
                    self.assertIs(chopped(pair, box), is_filled(pair, box), (pair, box))
                    self.assertEqual(chop(pair, box) is not None, is_filled(pair, box))
                    self.assertEqual(fewest_bricks(pair, box) is not None, is_filled(pair, box))

    def test_kinds_alike_and_greater_than_the_box(self):
        for many in (1, 2, 3, 4):
            ones = (1,) * many
            for kinds in ((ones,), (ones,) * 4, ((MOST,) * many, ones), ((MOST,) * many,), ((2,) * many, (2,) * many)):
                for box in ((1,) * many, (2,) * many, (3,) + (1,) * (many - 1)):
                    self.check(kinds, box)

    def test_great_boxes(self):
        for box in GREAT_BOXES:
            many = len(box)
            ones = (1,) * many
            halves = tuple((side + 1) // 2 for side in box)
            for kinds in ((ones,), (ones, (2,) * many, (3,) * many, (5,) * many), (put(ones, 0, 2), put(ones, 0, 3)),
                          (halves, ones), ((2,) * many, (3,) * many)):
                for function in (chopped, chop, fewest_bricks):
                    call_quick(self, function, kinds, box)
            self.check((ones, (2,) * many, (3,) * many), box)
            self.check((put(ones, 0, 2), put(ones, 0, 3)), box)
            self.assertEqual(fewest_bricks(((1,) * many, box), box)[0], 1)


if __name__ == "__main__":
    unittest.main()
